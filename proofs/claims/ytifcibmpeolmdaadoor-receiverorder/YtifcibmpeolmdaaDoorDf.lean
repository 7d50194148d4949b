/- Proved: what the document's Cursor answers. Condition: the receiver lies in memory. -/
import Derived.Test.YtifcibmpeolmdaaDoorDe
import Derived.Test.YtifcibmpeolmdaaDoorPg
namespace Go.Proofs.YtifcibmpeolmdaaDoor
open Go.RowKit

def QuRel (r : Rv) (w : World) (sv iv : Value) (wr : World) : Prop := ∃ k : Nat, iv = .int .i64 k ∧ k ≤ r.c.length ∧ sv = .string ⟨(r.head ++ r.body k).toArray⟩ ∧ Keep w wr
theorem number_keep (n : Nat) (h : n < 18446744073709551616) (w : World) : Calls Tryd.prog 47 #[.int .u64 n] w fun e w' => e = .returned (.string ⟨(V.enc n).toArray⟩) ∧ Keep w w' := (number_at n w h).mono fun _ _ ⟨a, b⟩ => ⟨a, b⟩
theorem text_keep (s : List UInt8) (h : s.length ≤ 1000000) (w : World) : Calls Tryd.prog 48 #[.string ⟨s.toArray⟩] w fun e w' => e = .returned (.string ⟨(V.tx s).toArray⟩) ∧ Keep w w' := (qtext_bytes s w (by omega)).mono fun _ _ ⟨a, b⟩ => ⟨a, b⟩
section
variable {g bi bc bd : Nat} {r : Rv} {w : World}
set_option maxRecDepth 100000 in
set_option maxHeartbeats 1000000 in
theorem qcursor_at (h : R w g bi bc bd r) : Calls Tryd.prog 24 #[.pointer (some ⟨g, 0, none⟩)] w fun e w' => e = .returned (.string ⟨r.cursor.toArray⟩) ∧ Keep w w' := by
  have HS := Lib.hid (fun v (q : Keep w v) => h.keep q)
  have HG := Lib.hid h.good
  obtain ⟨s1, s2, e1, e2, l1, l2, eh⟩ := h.good.nums
  have hfew := h.good.few
  have w1 : IntKind.u64.wrap (s1 : Int) = (s1 : Int) := by rw [IntKind.wrap_u64]; omega
  have w2 : IntKind.u64.wrap (s2 : Int) = (s2 : Int) := by rw [IntKind.wrap_u64]; omega
  obtain ⟨N, hN⟩ : ∃ N, r.c.length = N := ⟨_, rfl⟩
  have HN := Lib.hid hN
  rw [hN] at hfew eh
  have w3 : IntKind.u64.wrap (N : Int) = (N : Int) := by rw [IntKind.wrap_u64]; omega
  have L1 := V.enc_len10 s1 (by omega)
  have L2 := V.enc_len10 s2 (by omega)
  have L3 := V.enc_len10 N (by omega)
  have HH := Lib.hid eh
  have a0 : ∀ u : KW w, u.1.cell? ⟨g, 0, none⟩ = some (.int .i64 s1) := fun u => by rw [← e1]; exact (h.keep u.2).ses
  have a1 : ∀ u : KW w, u.1.cell? ⟨g, 1, none⟩ = some (.int .i64 s2) := fun u => by rw [← e2]; exact (h.keep u.2).ep
  have a3 : ∀ u : KW w, u.1.cell? ⟨g, 3, none⟩ = some (.slice (some ⟨bc, 0, none⟩) N N) := fun u => by rw [← hN]; exact (h.keep u.2).c
  have N1 := Lib.hid (fun w' (_ : Keep w w') => number_keep s1 (by omega) w')
  have N2 := Lib.hid (fun w' (_ : Keep w w') => number_keep s2 (by omega) w')
  have N3 := Lib.hid (fun w' (_ : Keep w w') => number_keep N (by omega) w')
  have p1 := app_list (V.enc s1) (V.enc s2)
  have p2 := app_list (V.enc s1 ++ V.enc s2) (V.enc N)
  have N9 := Lib.hid (number_keep N (by omega))
  have HCu := Lib.hid (show r.cursor = r.head ++ r.body N ++ V.enc N by unfold Rv.cursor; rw [hN])
  have HHL := Lib.hid (show r.head.length ≤ 30 from head_len h.good)
  rw [← HH.out] at p2
  have L4 : (V.enc s1).length + (V.enc s2).length ≤ 1000 := by omega
  have L5 : (V.enc s1 ++ V.enc s2).length + (V.enc N).length ≤ 1000 := by rw [List.length_append]; omega
  clear h e1 e2 eh hN HH L1 L2
  generalize V.enc s1 = E1 at *
  generalize V.enc s2 = E2 at *
  generalize hE12 : E1 ++ E2 = E12 at *
  generalize V.enc N = EN at *
  clear hE12
  go_enter Tryd.func24, Tryd.ntmps24
  go_wp2_with fail
  refine wp_region_keep (Keep.refl _) (by kernel_rfl) (by kernel_rfl) ?_
  repeat (first | go_big_quiet_step (fail) | quiet_step (fail))
  first | go_big_quiet_step (exact keep_at N1.out _) | quiet_step (exact keep_at N1.out _)
  repeat (first | go_big_quiet_step (fail) | quiet_step (fail))
  first | go_big_quiet_step (exact keep_at N2.out _) | quiet_step (exact keep_at N2.out _)
  repeat (first | go_big_quiet_step (fail) | quiet_step (fail))
  first | go_big_quiet_step (exact keep_at N3.out _) | quiet_step (exact keep_at N3.out _)
  repeat (first | go_big_quiet_step (fail) | quiet_step (fail))
  refine wpQuiet_nil ?_
  rintro v4 ⟨⟨v5, k5⟩, hv⟩
  obtain rfl : v5 = v4 := hv.symm
  have K5 := Lib.hid k5
  clear a0 a1 a3 k5 hv p1 p2 N1 N2 N3 L4 L5
  go_wp2_with fail
  go_loopw [3, 4] (fun sv iv wr => QuRel r w sv iv wr) (fun _ iv _ => 300 - (intOf iv).toNat)
  case atStart => exact ⟨0, rfl, Nat.zero_le _, by simp [Rv.body], K5.out⟩
  case round =>
    obtain ⟨k, rfl, hk, rfl, hkp⟩ := hrel
    rw [HN.out] at hk
    have HK := Lib.hid hkp
    have hS := HS.out _ hkp
    have hbl := body_len HG.out k (by omega)
    have HBL := Lib.hid (show (r.head ++ r.body k).length ≤ 300000 by have := HHL.out; rw [List.length_append]; omega)
    have c3 := hS.c
    rw [HN.out] at c3
    clear hkp hbl
    by_cases hlt : k < N
    · have c2 := hS.i
      rw [HN.out] at c2
      have c5 := hS.there k (by rw [HN.out]; exact hlt)
      have HP := Lib.hid (show r.body (k + 1) = r.body k ++ r.part k from rfl)
      have HPt := Lib.hid (show r.part k = if r.l.getD k false then V.enc k ++ V.tx (r.c.getD k []) else [] from rfl)
      have HTx := Lib.hid (HG.out.text k)
      have w4 : IntKind.u64.wrap (k : Int) = (k : Int) := by rw [IntKind.wrap_u64]; omega
      have a2 : ∀ u : KW wr, u.1.cell? ⟨g, 3, none⟩ = some (.slice (some ⟨bc, 0, none⟩) N N) := fun u => by rw [← HN.out]; exact (hS.keep u.2).c
      have a5 : ∀ u : KW wr, u.1.cell? ⟨bc, k, none⟩ = some (.string ⟨(r.c.getD k []).toArray⟩) := fun u => (hS.keep u.2).text k (by rw [HN.out]; exact hlt)
      clear hS
      generalize r.c.getD k [] = tx at *
      generalize r.l.getD k false = B at *
      cases B
      · clear a2 a5
        go_wp2
        go_roundw
        case rel => exact ⟨k + 1, by go_num, by rw [HN.out]; omega, by rw [HP.out, HPt.out, if_neg (by simp), List.append_nil], HK.out⟩
        case measure => simp [intOf]; omega
      · have N1 := Lib.hid (fun w' (_ : Keep wr w') => number_keep k (by omega) w')
        have N2 := Lib.hid (fun w' (_ : Keep wr w') => text_keep tx (by have := HTx.out; omega) w')
        have p1 := app_list (V.enc k) (V.tx tx)
        have p2 := app_list (r.head ++ r.body k) (V.enc k ++ V.tx tx)
        have L1 : (V.enc k).length + (V.tx tx).length ≤ 2000 := by
          have := V.enc_len10 k (by omega)
          have := V.enc_len10 tx.length (by have := HTx.out; omega)
          have := HTx.out
          unfold V.tx
          rw [List.length_append]
          omega
        have L2 : (r.head ++ r.body k).length + (V.enc k ++ V.tx tx).length ≤ 400000 := by have := HBL.out; rw [show (V.enc k ++ V.tx tx).length = (V.enc k).length + (V.tx tx).length from List.length_append]; omega
        have HX := Lib.hid (show r.head ++ r.body k ++ (V.enc k ++ V.tx tx) = r.head ++ r.body (k + 1) by rw [HP.out, HPt.out, if_pos rfl, List.append_assoc])
        rw [HX.out] at p2
        clear HP HPt HTx HX
        generalize V.enc k = Ek at *
        generalize V.tx tx = Tk at *
        generalize hEk : Ek ++ Tk = EkT at *
        generalize r.head ++ r.body k = Hk at *
        generalize hH1 : r.head ++ r.body (k + 1) = H1 at *
        have HH1 := Lib.hid hH1
        clear hEk hH1
        go_wp2_with fail
        refine wp_region_keep (Keep.refl _) (by kernel_rfl) (by kernel_rfl) ?_
        repeat (first | go_big_quiet_step (fail) | quiet_step (fail))
        first | go_big_quiet_step (exact keep_at N1.out _) | quiet_step (exact keep_at N1.out _)
        repeat (first | go_big_quiet_step (fail) | quiet_step (fail))
        first | go_big_quiet_step (exact keep_at N2.out _) | quiet_step (exact keep_at N2.out _)
        repeat (first | go_big_quiet_step (fail) | quiet_step (fail))
        refine wpQuiet_nil ?_
        rintro v4 ⟨⟨v5, k6⟩, hv⟩
        obtain rfl : v5 = v4 := hv.symm
        have K6 := Lib.hid (HK.out.trans k6)
        clear a2 a5 k6 hv p1 p2 N1 N2 L1 L2 c2 c3 c5
        go_wp2
        go_roundw
        case rel => exact ⟨k + 1, by go_num, by rw [HN.out]; omega, by rw [HH1.out], K6.out⟩
        case measure => simp [intOf]; omega
    · obtain rfl : k = N := by omega
      have p1 := app_list (r.head ++ r.body k) EN
      have HP := Lib.hid p1
      have L1 : (r.head ++ r.body k).length + EN.length ≤ 400000 := by have := HBL.out; omega
      rw [← HCu.out] at p1
      clear hS
      generalize r.head ++ r.body k = Hk at *
      obtain ⟨Cu, hcu⟩ : ∃ Cu, r.cursor = Cu := ⟨_, rfl⟩
      rw [hcu] at p1
      have HC2 := Lib.hid hcu
      clear hcu
      go_wp2_with fail
      refine (N9.out wr).mono ?_
      rintro e u1 ⟨rfl, q1⟩
      have K7 := Lib.hid (HK.out.trans q1)
      clear q1 c3
      go_wp2
      go_ret
      exact ⟨by rw [HC2.out]; rfl, K7.out⟩
end
end Go.Proofs.YtifcibmpeolmdaaDoor
