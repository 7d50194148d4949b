/- Proved: what the document's Bytes of layer 8 answers. Condition: lists are short enough for memory; the changes may be, their numbers have 32 bits. -/
import Derived.Test.YtgkgpdlakamgiaaGreatJp
import Derived.Deep.RegionHeldLaw
namespace Go.Proofs.YtgkgpdlakamgiaaGreat
open Go.RowKit

theorem Cells.icto {w : World} {g o cap n k : Nat} {l : List Ic} (h : Cells il w (.slice (some ⟨g, o, none⟩) l.length cap) l) (hn : n = 18) (hk : k = 21) (j : Nat) (x : Ic) (hx : l[j]? = some x) : (loadCellsFrom ⟨g, o + j * k + 1, none⟩ 0 n #[]).run Tryz.prog w = .ok (pc x.route.to) w := by
  have e : (pc x.route.to).toList = ((il x).drop 1).take 18 := by
    show (pc x.route.to).toList = (rl x.route).take 18
    have := rl_to x.route
    rw [List.drop_zero] at this
    exact this.symm
  have := h.load (P := Tryz.prog) (n := n) il_len j x hx 1 18 (pc x.route.to).toList e (by omega) hn
  rw [← hk] at this
  simpa using this
theorem sz_list (l : List UInt8) : (⟨l.toArray⟩ : ByteArray).size = l.length := by simp [ByteArray.size]
def QbRel8 (w : World) (N : Nat) (l : List Ic) (sv iv : Value) (wr : World) : Prop :=
  ∃ k : Nat, iv = .int .i64 k ∧ k ≤ l.length ∧ sv = .string ⟨(V.enc N ++ rowsB (l.take k)).toArray⟩ ∧ Keep w wr
set_option maxRecDepth 100000 in
set_option maxHeartbeats 4000000 in
theorem qrowB (v : Value) (l : List Ic) (w : World) (h : Ls w v l) (hr : ∀ i ∈ l, rightI i) (hq : ∀ i ∈ l, SqI i) (hl : l.length ≤ 200) : Calls Tryz.prog 30 #[v] w fun e w' => e = .returned (.string ⟨(rowB l).toArray⟩) ∧ Keep w w' := by
  obtain ⟨a, cap, rfl⟩ := h.form
  obtain ⟨n, hn⟩ : ∃ n, n = 21 := ⟨21, rfl⟩
  have hsz : ∀ w, (Go.sizeOf 59).run Tryz.prog w = .ok n w := fun w => by rw [hn]; exact Tryz.sizeOf59 w
  have hn0 : ¬ n = 0 := by omega
  obtain ⟨n2, hn2⟩ : ∃ n, n = 18 := ⟨18, rfl⟩
  have hsz2 : ∀ w, (Go.sizeOf 54).run Tryz.prog w = .ok n2 w := fun w => by rw [hn2]; exact Tryz.sizeOf54 w
  have hn20 : ¬ n2 = 0 := by omega
  have HN := Lib.hid hn
  have HN2 := Lib.hid hn2
  have HL := Lib.hid h
  have HAR := Lib.hid hr
  have HSq := Lib.hid hq
  obtain ⟨N, hN⟩ : ∃ N, l.length = N := ⟨_, rfl⟩
  have HLN := Lib.hid hN
  have HNm := Lib.hid (show ∀ n : Nat, n < 2 ^ 64 → GivesK Tryz.prog 64 #[.int .u64 n] (.string ⟨(V.enc n).toArray⟩) from fun n hn w => number_at n w hn)
  obtain ⟨D, hD⟩ : ∃ D, D = rowB l := ⟨_, rfl⟩
  rw [← hD]
  have HD := Lib.hid hD
  rw [hN] at hl ⊢
  clear hn hn2 h hr hq hN hD
  go_enter Tryz.func30, Tryz.ntmps30
  go_wp2_with fail
  refine (HNm.out N (by omega) _).mono ?_
  rintro e w1 ⟨rfl, k1⟩
  have HK1 := Lib.hid k1
  clear k1
  go_wp2
  go_loopw [3, 4] (fun sv iv wr => QbRel8 w N l sv iv wr) (fun _ iv _ => N - (intOf iv).toNat)
  case atStart => exact ⟨0, rfl, Nat.zero_le _, by simp [rowsB], HK1.out⟩
  case round =>
    obtain ⟨k, rfl, hk, rfl, hw⟩ := hrel
    rw [HLN.out] at hk
    have HK := Lib.hid hw
    clear hw
    by_cases hlt : k < N
    · have hcl := HL.out.at k (by rw [HLN.out]; exact hlt)
      obtain ⟨g, o, cap', e, _, _, _⟩ := hcl.ptr k (by rw [HLN.out]; exact hlt)
      simp at e
      obtain ⟨rfl, rfl⟩ := e
      obtain ⟨x, hx⟩ : ∃ x, l[k]? = some x := ⟨_, List.getElem?_eq_getElem (by rw [HLN.out]; exact hlt)⟩
      have HCL := Lib.hid (hcl.keep HK.out)
      have hmem := List.mem_of_getElem? hx
      have hxr := HAR.out x hmem
      have hxq := HSq.out x hmem
      have HX := Lib.hid hx
      have HTK := Lib.hid (show rowsB (l.take (k + 1)) = rowsB (l.take k) ++ chB x from by rw [List.take_add_one, hx]; exact rowsB_snoc _ _)
      have hSl : (V.enc N ++ rowsB (l.take k)).length ≤ 10000 := by
        have h1 := rowsB_len (l.take k) (fun i hi => HAR.out i (List.mem_of_mem_take hi)) (fun i hi => HSq.out i (List.mem_of_mem_take hi))
        have h2 := V.enc_len10 N (by omega)
        rw [List.length_take] at h1
        rw [List.length_append]
        omega
      have hbl := bytesL_len x.route.to hxr.to x.route.ok
      have HBy := Lib.hid (qbytes x.route.to x.route.ok hxr.to)
      have hm0 := hxr.metric
      obtain ⟨kd, hkd, hkd3⟩ : ∃ kd : Nat, x.kind = kd ∧ kd ≤ 3 := ⟨x.kind.toNat, by rcases hxr.kind with e | e | e <;> rw [e] <;> simp, by rcases hxr.kind with e | e | e <;> rw [e] <;> simp⟩
      obtain ⟨m, hm⟩ : ∃ m : Nat, x.route.metric = m := ⟨x.route.metric.toNat, by omega⟩
      obtain ⟨q, hq⟩ : ∃ q : Nat, x.route.seq = q := ⟨x.route.seq.toNat, by have := hxq.1; omega⟩
      have hml : m < 65535 := by omega
      have hql : q < 4294967296 := by have := hxq.2; omega
      have HCB := Lib.hid (show chB x = UInt8.ofNat kd :: (bytesL x.route.to ++ if kd = 3 then [] else V.enc m ++ V.enc q) from by
        unfold chB
        rw [hkd, hm, hq, Int.toNat_natCast, Int.toNat_natCast, Int.toNat_natCast]
        congr 2
        by_cases h3 : kd = 3
        · rw [if_pos h3, if_pos (by omega)]
        · rw [if_neg h3, if_neg (by omega)])
      have HSk := Lib.hid (show ∀ w', Keep wr w' → w'.cell? ⟨g, o + k * n, none⟩ = some (.int .i64 (kd : Nat)) ∧ (loadCellsFrom ⟨g, o + k * n + 1, none⟩ 0 n2 #[]).run Tryz.prog w' = .ok (pc x.route.to) w' from fun w' kw => by
        refine ⟨?_, (HCL.out.keep kw).icto HN2.out HN.out k x HX.out⟩
        have := (HCL.out.keep kw).cell il_len k x HX.out 0 (by omega) _ rfl
        rw [HN.out, ← hkd]
        simpa using this)
      have hwk : IntKind.u8.wrap (kd : Int) = (kd : Int) := by rw [IntKind.wrap_u8']; omega
      have hcv : ∀ (w : World) (g : Nat), w.cell? ⟨g, 0, none⟩ = some (.int .u8 (kd : Int)) → (convert 114 9 (.slice (some ⟨g, 0, none⟩) 1 1)).run Tryz.prog w = .ok (.string ⟨#[UInt8.ofNat kd]⟩) w := fun w g h => conv_at w g kd h
      clear hcl hx hmem hxr hxq hm0
      generalize hS : V.enc N ++ rowsB (l.take k) = S at *
      have HS := Lib.hid hS
      generalize bytesL x.route.to = bs at *
      generalize pc x.route.to = T at *
      have hcb : [UInt8.ofNat kd] = UInt8.ofNat kd :: [] := rfl
      have p1 : ((⟨#[UInt8.ofNat kd]⟩ : ByteArray) ++ ⟨bs.toArray⟩) = ⟨(UInt8.ofNat kd :: bs).toArray⟩ := app_list [UInt8.ofNat kd] bs
      have hB1 : (UInt8.ofNat kd :: bs).length ≤ 18 := by rw [List.length_cons]; omega
      have HB1 := Lib.hid (show UInt8.ofNat kd :: bs = UInt8.ofNat kd :: bs from rfl)
      generalize hBB : UInt8.ofNat kd :: bs = B1 at p1 hB1
      have HBB := Lib.hid hBB
      have p2 : ((⟨S.toArray⟩ : ByteArray) ++ ⟨B1.toArray⟩) = ⟨(S ++ B1).toArray⟩ := app_list S B1
      generalize hS1 : S ++ B1 = S1 at p2
      have HS1 := Lib.hid hS1
      have s1 := sz_list S
      have s2 := sz_list bs
      have s3 := sz_list B1
      have s4 : (⟨#[UInt8.ofNat kd]⟩ : ByteArray).size = 1 := rfl
      have e1 : ∀ w, (Op.stringOp .add ⟨#[UInt8.ofNat kd]⟩ ⟨bs.toArray⟩).run Tryz.prog w = .ok (.string ⟨B1.toArray⟩) w := fun w => by rw [← p1]; exact run_string_add_sum _ _ _ (by rw [s4, s2]; omega)
      have e2 : ∀ w, (Op.stringOp .add ⟨S.toArray⟩ ⟨B1.toArray⟩).run Tryz.prog w = .ok (.string ⟨S1.toArray⟩) w := fun w => by rw [← p2]; exact run_string_add_sum _ _ _ (by rw [s1, s3]; omega)
      have hc1 : (convert 114 9 (.slice (some ⟨wr.heap.size, 0, none⟩) 1 1)).run Tryz.prog (wr.alloc (.cells #[.int .u8 (kd : Int)] 5)).drew = .ok (.string ⟨#[UInt8.ofNat kd]⟩) (wr.alloc (.cells #[.int .u8 (kd : Int)] 5)).drew := hcv _ _ (by
        have := heap_alloc_last wr (.cells #[.int .u8 (kd : Int)] 5)
        exact cell_obj (w := (wr.alloc (.cells #[.int .u8 (kd : Int)] 5)).drew) this rfl)
      have HCV := Lib.hid hcv
      have hcA : ∀ w : World, (convert 114 9 (.slice (some ⟨w.heap.size, 0, none⟩) 1 1)).run Tryz.prog (w.alloc (.cells #[.int .u8 (kd : Int)] 5)) = .ok (.string ⟨#[UInt8.ofNat kd]⟩) (w.alloc (.cells #[.int .u8 (kd : Int)] 5)) := fun w => hcv _ _ (cell_obj (heap_alloc_last w _) rfl)
      clear hS hBB hS1 hcb hcv p1 p2 s1 s2 s3 s4
      go_wp2_with fail
      go_region_held_law (fun w' => w'.cell? ⟨g, o + k * n, none⟩ = some (.int .i64 (kd : Nat)) ∧ (loadCellsFrom ⟨g, o + k * n + 1, none⟩ 0 n2 #[]).run Tryz.prog w' = .ok T w') (first | exact HSk.out _ ((Keep.refl wr).drewN 1) | exact HSk.out _ (((Keep.refl wr).drewN 1).alloc _) | exact HSk.out _ k4 | exact HSk.out _ (k4.alloc _)) (first | (go_at_call 65; refine (HBy.out _).mono ?_; rintro e w4 ⟨rfl, b4⟩; have k4 : Keep wr w4 := Keep.trans (by first | exact (Keep.refl wr).drewN 1 | exact ((Keep.refl wr).drewN 1).alloc _) b4; try (have hc4 : (convert 114 9 (.slice (some ⟨wr.heap.size, 0, none⟩) 1 1)).run Tryz.prog w4 = .ok (.string ⟨#[UInt8.ofNat kd]⟩) w4 := HCV.out _ _ (cell_obj (b4.obj (heap_alloc_last wr (.cells #[.int .u8 (kd : Int)] 5))) rfl))))
      · have HK6 := Lib.hid (HK.out.trans k4)
        have HC6 := Lib.hid (HCL.out.keep k4)
        have hkc : (w4).cell? ⟨g, o + k * n, none⟩ = some (.int .i64 (kd : Nat)) := (HSk.out _ k4).1
        have d1 : ∀ u : KW (w4), u.1.cell? ⟨g, o + k * n + 1 + 18, none⟩ = some (.int .i64 (m : Nat)) := fun u => by
          have := (HC6.out.keep u.2).cell il_len k x HX.out 19 (by omega) _ (by have := rl_metric x.route; simpa [il] using this)
          rw [HN.out, ← hm]
          exact this
        have d2 : ∀ u : KW (w4), u.1.cell? ⟨g, o + k * n + 1 + 19, none⟩ = some (.int .u32 (q : Nat)) := fun u => by
          have := (HC6.out.keep u.2).cell il_len k x HX.out 20 (by omega) _ (by have := rl_seq x.route; simpa [il] using this)
          rw [HN.out, ← hq]
          exact this
        clear k4 b4 hcA hc1 e1 e2
        by_cases h3 : kd = 3
        · have h3b : ((kd : Int) != 3) = false := by simp; omega
          have HE := Lib.hid (show S1 = V.enc N ++ rowsB (l.take (k + 1)) from by
            rw [HTK.out, HCB.out, if_pos h3, List.append_nil, ← List.append_assoc, HS.out, HBB.out, HS1.out])
          clear d1 d2
          go_wp2
          go_roundw
          case rel => exact ⟨k + 1, by go_num, by rw [HLN.out]; omega, by rw [← HE.out], HK6.out⟩
          case measure => simp [intOf]; omega
        · have h3b : ((kd : Int) != 3) = true := by simp; omega
          have HN3 := Lib.hid (HNm.out m (by omega))
          have HN4 := Lib.hid (HNm.out q (by omega))
          have l3 := V.enc_len10 m (by omega)
          have l4 := V.enc_len10 q (by omega)
          have HE := Lib.hid (show S1 ++ (V.enc m ++ V.enc q) = V.enc N ++ rowsB (l.take (k + 1)) from by
            rw [HTK.out, HCB.out, if_neg h3, ← List.append_assoc (V.enc N), HS.out, ← List.cons_append, HBB.out, ← List.append_assoc S, HS1.out])
          have lS1 : S1.length ≤ 20000 := by rw [← HS1.out, List.length_append]; omega
          generalize V.enc m = A3 at *
          generalize V.enc q = A4 at *
          have p3 := app_list A3 A4
          have p4 := app_list S1 (A3 ++ A4)
          have s3 := sz_list A3
          have s4 := sz_list A4
          have s5 := sz_list S1
          have s6 := sz_list (A3 ++ A4)
          have t6 : (A3 ++ A4).length ≤ 20 := by rw [List.length_append]; omega
          generalize S1 ++ (A3 ++ A4) = S2 at *
          generalize A3 ++ A4 = B4 at *
          go_wp2_with fail
          refine wp_region_keep (Keep.refl _) (by kernel_rfl) (by kernel_rfl) ?_
          repeat (first | go_big_quiet_step (fail) | quiet_step (fail))
          first | go_big_quiet_step (exact HN3.out.at _) | quiet_step (exact HN3.out.at _)
          repeat (first | go_big_quiet_step (fail) | quiet_step (fail))
          first | go_big_quiet_step (exact HN4.out.at _) | quiet_step (exact HN4.out.at _)
          repeat (first | go_big_quiet_step (fail) | quiet_step (fail))
          refine wpQuiet_nil ?_
          rintro w8 ⟨⟨w7, b6⟩, rfl⟩
          have HK8 := Lib.hid (HK6.out.trans b6)
          clear b6 d1 d2 hkc
          go_wp2
          go_roundw
          case rel => exact ⟨k + 1, by go_num, by rw [HLN.out]; omega, by rw [← HE.out], HK8.out⟩
          case measure => simp [intOf]; omega
      · have HK6 := Lib.hid (HK.out.trans k4)
        have HC6 := Lib.hid (HCL.out.keep k4)
        have hkc : (w4).cell? ⟨g, o + k * n, none⟩ = some (.int .i64 (kd : Nat)) := (HSk.out _ k4).1
        have d1 : ∀ u : KW (w4), u.1.cell? ⟨g, o + k * n + 1 + 18, none⟩ = some (.int .i64 (m : Nat)) := fun u => by
          have := (HC6.out.keep u.2).cell il_len k x HX.out 19 (by omega) _ (by have := rl_metric x.route; simpa [il] using this)
          rw [HN.out, ← hm]
          exact this
        have d2 : ∀ u : KW (w4), u.1.cell? ⟨g, o + k * n + 1 + 19, none⟩ = some (.int .u32 (q : Nat)) := fun u => by
          have := (HC6.out.keep u.2).cell il_len k x HX.out 20 (by omega) _ (by have := rl_seq x.route; simpa [il] using this)
          rw [HN.out, ← hq]
          exact this
        clear k4 b4 hcA hc1 e1 e2
        by_cases h3 : kd = 3
        · have h3b : ((kd : Int) != 3) = false := by simp; omega
          have HE := Lib.hid (show S1 = V.enc N ++ rowsB (l.take (k + 1)) from by
            rw [HTK.out, HCB.out, if_pos h3, List.append_nil, ← List.append_assoc, HS.out, HBB.out, HS1.out])
          clear d1 d2
          go_wp2
          go_roundw
          case rel => exact ⟨k + 1, by go_num, by rw [HLN.out]; omega, by rw [← HE.out], HK6.out⟩
          case measure => simp [intOf]; omega
        · have h3b : ((kd : Int) != 3) = true := by simp; omega
          have HN3 := Lib.hid (HNm.out m (by omega))
          have HN4 := Lib.hid (HNm.out q (by omega))
          have l3 := V.enc_len10 m (by omega)
          have l4 := V.enc_len10 q (by omega)
          have HE := Lib.hid (show S1 ++ (V.enc m ++ V.enc q) = V.enc N ++ rowsB (l.take (k + 1)) from by
            rw [HTK.out, HCB.out, if_neg h3, ← List.append_assoc (V.enc N), HS.out, ← List.cons_append, HBB.out, ← List.append_assoc S, HS1.out])
          have lS1 : S1.length ≤ 20000 := by rw [← HS1.out, List.length_append]; omega
          generalize V.enc m = A3 at *
          generalize V.enc q = A4 at *
          have p3 := app_list A3 A4
          have p4 := app_list S1 (A3 ++ A4)
          have s3 := sz_list A3
          have s4 := sz_list A4
          have s5 := sz_list S1
          have s6 := sz_list (A3 ++ A4)
          have t6 : (A3 ++ A4).length ≤ 20 := by rw [List.length_append]; omega
          generalize S1 ++ (A3 ++ A4) = S2 at *
          generalize A3 ++ A4 = B4 at *
          go_wp2_with fail
          refine wp_region_keep (Keep.refl _) (by kernel_rfl) (by kernel_rfl) ?_
          repeat (first | go_big_quiet_step (fail) | quiet_step (fail))
          first | go_big_quiet_step (exact HN3.out.at _) | quiet_step (exact HN3.out.at _)
          repeat (first | go_big_quiet_step (fail) | quiet_step (fail))
          first | go_big_quiet_step (exact HN4.out.at _) | quiet_step (exact HN4.out.at _)
          repeat (first | go_big_quiet_step (fail) | quiet_step (fail))
          refine wpQuiet_nil ?_
          rintro w8 ⟨⟨w7, b6⟩, rfl⟩
          have HK8 := Lib.hid (HK6.out.trans b6)
          clear b6 d1 d2 hkc
          go_wp2
          go_roundw
          case rel => exact ⟨k + 1, by go_num, by rw [HLN.out]; omega, by rw [← HE.out], HK8.out⟩
          case measure => simp [intOf]; omega
      · have HK6 := Lib.hid (HK.out.trans (k4.alloc (.cells #[.int .u8 (kd : Int)] 5)))
        have HC6 := Lib.hid (HCL.out.keep (k4.alloc (.cells #[.int .u8 (kd : Int)] 5)))
        have hkc : (w4.alloc (.cells #[.int .u8 (kd : Int)] 5)).cell? ⟨g, o + k * n, none⟩ = some (.int .i64 (kd : Nat)) := (HSk.out _ (k4.alloc (.cells #[.int .u8 (kd : Int)] 5))).1
        have d1 : ∀ u : KW (w4.alloc (.cells #[.int .u8 (kd : Int)] 5)), u.1.cell? ⟨g, o + k * n + 1 + 18, none⟩ = some (.int .i64 (m : Nat)) := fun u => by
          have := (HC6.out.keep u.2).cell il_len k x HX.out 19 (by omega) _ (by have := rl_metric x.route; simpa [il] using this)
          rw [HN.out, ← hm]
          exact this
        have d2 : ∀ u : KW (w4.alloc (.cells #[.int .u8 (kd : Int)] 5)), u.1.cell? ⟨g, o + k * n + 1 + 19, none⟩ = some (.int .u32 (q : Nat)) := fun u => by
          have := (HC6.out.keep u.2).cell il_len k x HX.out 20 (by omega) _ (by have := rl_seq x.route; simpa [il] using this)
          rw [HN.out, ← hq]
          exact this
        clear k4 b4 hcA hc1 e1 e2
        generalize w4.alloc (.cells #[.int .u8 (kd : Int)] 5) = w6 at *
        by_cases h3 : kd = 3
        · have h3b : ((kd : Int) != 3) = false := by simp; omega
          have HE := Lib.hid (show S1 = V.enc N ++ rowsB (l.take (k + 1)) from by
            rw [HTK.out, HCB.out, if_pos h3, List.append_nil, ← List.append_assoc, HS.out, HBB.out, HS1.out])
          clear d1 d2
          go_wp2
          go_roundw
          case rel => exact ⟨k + 1, by go_num, by rw [HLN.out]; omega, by rw [← HE.out], HK6.out⟩
          case measure => simp [intOf]; omega
        · have h3b : ((kd : Int) != 3) = true := by simp; omega
          have HN3 := Lib.hid (HNm.out m (by omega))
          have HN4 := Lib.hid (HNm.out q (by omega))
          have l3 := V.enc_len10 m (by omega)
          have l4 := V.enc_len10 q (by omega)
          have HE := Lib.hid (show S1 ++ (V.enc m ++ V.enc q) = V.enc N ++ rowsB (l.take (k + 1)) from by
            rw [HTK.out, HCB.out, if_neg h3, ← List.append_assoc (V.enc N), HS.out, ← List.cons_append, HBB.out, ← List.append_assoc S, HS1.out])
          have lS1 : S1.length ≤ 20000 := by rw [← HS1.out, List.length_append]; omega
          generalize V.enc m = A3 at *
          generalize V.enc q = A4 at *
          have p3 := app_list A3 A4
          have p4 := app_list S1 (A3 ++ A4)
          have s3 := sz_list A3
          have s4 := sz_list A4
          have s5 := sz_list S1
          have s6 := sz_list (A3 ++ A4)
          have t6 : (A3 ++ A4).length ≤ 20 := by rw [List.length_append]; omega
          generalize S1 ++ (A3 ++ A4) = S2 at *
          generalize A3 ++ A4 = B4 at *
          go_wp2_with fail
          refine wp_region_keep (Keep.refl _) (by kernel_rfl) (by kernel_rfl) ?_
          repeat (first | go_big_quiet_step (fail) | quiet_step (fail))
          first | go_big_quiet_step (exact HN3.out.at _) | quiet_step (exact HN3.out.at _)
          repeat (first | go_big_quiet_step (fail) | quiet_step (fail))
          first | go_big_quiet_step (exact HN4.out.at _) | quiet_step (exact HN4.out.at _)
          repeat (first | go_big_quiet_step (fail) | quiet_step (fail))
          refine wpQuiet_nil ?_
          rintro w8 ⟨⟨w7, b6⟩, rfl⟩
          have HK8 := Lib.hid (HK6.out.trans b6)
          clear b6 d1 d2 hkc
          go_wp2
          go_roundw
          case rel => exact ⟨k + 1, by go_num, by rw [HLN.out]; omega, by rw [← HE.out], HK8.out⟩
          case measure => simp [intOf]; omega
    · have HE := Lib.hid (show V.enc N ++ rowsB (l.take k) = D from by
        rw [HD.out, List.take_of_length_le (by rw [HLN.out]; omega)]
        unfold rowB
        rw [HLN.out])
      rw [HE.out]
      go_wp2
      go_ret
      exact ⟨rfl, HK.out⟩
end Go.Proofs.YtgkgpdlakamgiaaGreat
