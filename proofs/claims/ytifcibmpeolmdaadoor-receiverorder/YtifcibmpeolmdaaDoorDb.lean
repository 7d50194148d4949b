/- Proved: what the document's wrong answers. Condition: the receiver lies in memory; the frame's numbers are ints. -/
import Derived.Test.YtifcibmpeolmdaaDoorDa
namespace Go.Proofs.YtifcibmpeolmdaaDoor
open Go.RowKit

section
variable {b bm bc : Nat} {m : Option Nat} {g bi bd : Nat} {r : Rv} {w : World}
set_option maxRecDepth 100000 in
set_option maxHeartbeats 1000000 in
theorem qwrong_at (f : Fr) (hs : SqF f) (h : R w g bi bc bd r) : Calls Tryd.prog 37 #[.pointer (some ⟨g, 0, none⟩), .agg (fc f)] w fun e w' => e = .returned (.int .i64 (r.wrong f : Nat)) ∧ Keep w w' := by
  obtain ⟨n, hn⟩ : ∃ n, n = 6 := ⟨6, rfl⟩
  have hsz : ∀ w, (Go.sizeOf 32).run Tryd.prog w = .ok n w := fun w => by rw [hn]; exact Tryd.sizeOf32 w
  have hn0 : ¬ n = 0 := by omega
  have k1 : Keep w (w.alloc (.cells (fc f) 32)) := (Keep.refl w).alloc _
  have hA := FAt.new w f
  have hl := hA.whole hn
  have a0 := hA.kind
  have HF := Lib.hid (fun w1 (k : Keep (w.alloc (.cells (fc f) 32)) w1) => hA.keep k)
  have HS := Lib.hid (fun w1 (k : Keep (w.alloc (.cells (fc f) 32)) w1) => (h.keep k1).keep k)
  have HK := Lib.hid (fun w1 (k : Keep (w.alloc (.cells (fc f) 32)) w1) => k1.trans k)
  have HR := Lib.hid (qright f hs.data)
  have hd := hs.data
  clear k1 hA h hs hn
  obtain ⟨W, hW⟩ : ∃ W, r.wrong f = W := ⟨_, rfl⟩
  have HW := Lib.hid hW
  rw [hW]
  clear hW
  by_cases g1 : f.kind = 1
  rotate_left
  · have e : W = 1 := by rw [← HW.out]; unfold Rv.wrong; rw [if_pos (.inl g1)]
    subst e
    have hne : (f.kind != 1) = true := by simpa using g1
    clear g1 HW
    generalize fc f = C at *
    generalize f.kind = kd at *
    go_enter Tryd.func37, Tryd.ntmps37
    go_wp2
    go_ret
    exact ⟨rfl, HK.out _ (Keep.refl _)⟩
  have hne : (f.kind != 1) = false := by simpa using g1
  generalize fc f = C at *
  go_enter Tryd.func37, Tryd.ntmps37
  go_wp2_with fail
  refine (HR.out _).mono ?_
  rintro e w1 ⟨rfl, q1⟩
  have K1 := Lib.hid q1
  clear q1 hl a0 HR
  by_cases g2 : rightF f
  rotate_left
  · have e : W = 1 := by rw [← HW.out]; unfold Rv.wrong; rw [if_pos (.inr g2)]
    subst e
    rw [decide_eq_false g2]
    clear g1 g2 HW
    go_wp2
    go_ret
    exact ⟨rfl, HK.out _ K1.out⟩
  rw [decide_eq_true g2]
  have g12 : ¬ (f.kind ≠ 1 ∨ ¬ rightF f) := fun q => q.elim (fun q => q g1) (fun q => q g2)
  have G12 := Lib.hid g12
  have hix : 0 ≤ f.idx := g2.2.2.2.1.1
  clear g1 g2 g12
  have a1 : ∀ u : KW w1, u.1.cell? ⟨w.heap.size, 1, none⟩ = some (.int .i64 f.ses) := fun u => (HF.out _ (K1.out.trans u.2)).ses
  have a2 : ∀ u : KW w1, u.1.cell? ⟨g, 0, none⟩ = some (.int .i64 r.ses) := fun u => (HS.out _ (K1.out.trans u.2)).ses
  by_cases g3 : f.ses = r.ses
  rotate_left
  · have e : W = 12 := by rw [← HW.out]; unfold Rv.wrong; rw [if_neg G12.out, if_pos g3]
    subst e
    have hn3 : (f.ses != r.ses) = true := by simpa using g3
    clear g3 HW
    go_wp2_with fail
    refine wp_region_keep (Keep.refl _) (by kernel_rfl) (by kernel_rfl) ?_
    repeat (first | go_big_quiet_step (fail) | quiet_step (fail))
    refine wpQuiet_nil ?_
    rintro v4 ⟨⟨v5, k5⟩, hv⟩
    obtain rfl : v5 = v4 := hv.symm
    clear a1 a2
    go_wp2
    go_ret
    exact ⟨rfl, HK.out _ (K1.out.trans k5)⟩
  have hn3 : (f.ses != r.ses) = false := by simpa using g3
  have Hg3 := Lib.hid g3
  clear g3

  go_wp2_with fail
  refine wp_region_keep (Keep.refl _) (by kernel_rfl) (by kernel_rfl) ?_
  repeat (first | go_big_quiet_step (fail) | quiet_step (fail))
  refine wpQuiet_nil ?_
  rintro v4 ⟨⟨v5, k5⟩, hv⟩
  obtain rfl : v5 = v4 := hv.symm
  have K2 := Lib.hid (K1.out.trans k5)
  clear a1 a2 hn3 k5 hv
  generalize v5 = w2 at *
  have a1 : ∀ u : KW w2, u.1.cell? ⟨w.heap.size, 2, none⟩ = some (.int .i64 f.ep) := fun u => (HF.out _ (K2.out.trans u.2)).ep
  have a2 : ∀ u : KW w2, u.1.cell? ⟨g, 1, none⟩ = some (.int .i64 r.ep) := fun u => (HS.out _ (K2.out.trans u.2)).ep
  by_cases g4 : f.ep = r.ep
  rotate_left
  · have e : W = 13 := by rw [← HW.out]; unfold Rv.wrong; rw [if_neg G12.out, if_neg (fun q => q Hg3.out), if_pos g4]
    subst e
    have hn3 : (f.ep != r.ep) = true := by simpa using g4
    clear g4 HW
    go_wp2_with fail
    refine wp_region_keep (Keep.refl _) (by kernel_rfl) (by kernel_rfl) ?_
    repeat (first | go_big_quiet_step (fail) | quiet_step (fail))
    refine wpQuiet_nil ?_
    rintro v4 ⟨⟨v5, k5⟩, hv⟩
    obtain rfl : v5 = v4 := hv.symm
    clear a1 a2
    go_wp2
    go_ret
    exact ⟨rfl, HK.out _ (K2.out.trans k5)⟩
  have hn3 : (f.ep != r.ep) = false := by simpa using g4
  have Hg4 := Lib.hid g4
  clear g4

  go_wp2_with fail
  refine wp_region_keep (Keep.refl _) (by kernel_rfl) (by kernel_rfl) ?_
  repeat (first | go_big_quiet_step (fail) | quiet_step (fail))
  refine wpQuiet_nil ?_
  rintro v4 ⟨⟨v5, k5⟩, hv⟩
  obtain rfl : v5 = v4 := hv.symm
  have K3 := Lib.hid (K2.out.trans k5)
  clear a1 a2 hn3 k5 hv
  generalize v5 = w3 at *
  have a1 : ∀ u : KW w3, u.1.cell? ⟨w.heap.size, 4, none⟩ = some (.int .i64 f.tot) := fun u => (HF.out _ (K3.out.trans u.2)).tot
  have a2 : ∀ u : KW w3, u.1.cell? ⟨g, 3, none⟩ = some (.slice (some ⟨bc, 0, none⟩) r.c.length r.c.length) := fun u => (HS.out _ (K3.out.trans u.2)).c
  have a3 : ∀ u : KW w3, u.1.cell? ⟨w.heap.size, 3, none⟩ = some (.int .i64 f.idx) := fun u => (HF.out _ (K3.out.trans u.2)).idx
  by_cases g5 : f.tot = (r.c.length : Int)
  rotate_left
  · have e : W = 14 := by rw [← HW.out]; unfold Rv.wrong; rw [if_neg G12.out, if_neg (fun q => q Hg3.out), if_neg (fun q => q Hg4.out), if_pos (.inl g5)]
    subst e
    have hn3 : (f.tot != (r.c.length : Int)) = true := by simpa using g5
    clear g5 HW
    go_wp2_with fail
    refine wp_region_keep (Keep.refl _) (by kernel_rfl) (by kernel_rfl) ?_
    repeat (first | go_big_quiet_step (fail) | quiet_step (fail))
    refine wpQuiet_nil ?_
    rintro v4 ⟨⟨v5, k5⟩, hv⟩
    obtain rfl : v5 = v4 := hv.symm
    clear a1 a2 a3
    go_wp2
    go_ret
    exact ⟨rfl, HK.out _ (K3.out.trans k5)⟩
  have hn3 : (f.tot != (r.c.length : Int)) = false := by simpa using g5
  by_cases g6 : f.tot ≤ f.idx
  · have e : W = 14 := by rw [← HW.out]; unfold Rv.wrong; rw [if_neg G12.out, if_neg (fun q => q Hg3.out), if_neg (fun q => q Hg4.out), if_pos (.inr g6)]
    subst e
    have hn4 : decide (f.idx ≥ f.tot) = true := decide_eq_true g6
    clear g5 g6 HW
    go_wp2_with fail
    refine wp_region_keep (Keep.refl _) (by kernel_rfl) (by kernel_rfl) ?_
    repeat (first | go_big_quiet_step (fail) | quiet_step (fail))
    refine wpQuiet_nil ?_
    rintro v4 ⟨⟨v5, k5⟩, hv⟩
    obtain rfl : v5 = v4 := hv.symm
    clear a1 a2 a3
    go_wp2
    go_ret
    exact ⟨rfl, HK.out _ (K3.out.trans k5)⟩
  have hn4 : decide (f.idx ≥ f.tot) = false := decide_eq_false g6
  have G56 := Lib.hid (show ¬ (f.tot ≠ (r.c.length : Int) ∨ f.tot ≤ f.idx) from fun q => q.elim (fun q => q g5) g6)
  have hlt : f.idx.toNat < r.c.length := by omega
  have Hlt := Lib.hid hlt
  clear g5 g6 hlt
  go_wp2_with fail
  refine wp_region_keep (Keep.refl _) (by kernel_rfl) (by kernel_rfl) ?_
  repeat (first | go_big_quiet_step (fail) | quiet_step (fail))
  refine wpQuiet_nil ?_
  rintro v4 ⟨⟨v5, k5⟩, hv⟩
  obtain rfl : v5 = v4 := hv.symm
  have K4 := Lib.hid (K3.out.trans k5)
  clear a1 a2 a3 hn3 hn4 k5 hv
  generalize v5 = w4 at *
  have a5 := (HF.out _ K4.out).data
  by_cases g7 : 1000 < f.data.length
  · have e : W = 7 := by rw [← HW.out]; unfold Rv.wrong; rw [if_neg G12.out, if_neg (fun q => q Hg3.out), if_neg (fun q => q Hg4.out), if_neg G56.out, if_pos g7]
    subst e
    have hg : (f.data.length : Int) > 1000 := by omega
    clear g7 HW
    go_wp2
    go_ret
    exact ⟨rfl, HK.out _ K4.out⟩
  have hg : ¬ ((f.data.length : Int) > 1000) := by omega
  have Hg7 := Lib.hid g7
  clear g7
  obtain ⟨k, hk⟩ := Int.eq_ofNat_of_zero_le hix
  have hkn : f.idx.toNat = k := by omega
  have Hkn := Lib.hid hkn
  have a1 : ∀ u : KW w4, u.1.cell? ⟨g, 2, none⟩ = some (.slice (some ⟨bi, 0, none⟩) r.c.length r.c.length) := fun u => (HS.out _ (K4.out.trans u.2)).i
  have a3 : ∀ u : KW w4, u.1.cell? ⟨w.heap.size, 3, none⟩ = some (.int .i64 (k : Nat)) := fun u => by rw [← hk]; exact (HF.out _ (K4.out.trans u.2)).idx
  have a4 : ∀ u : KW w4, u.1.cell? ⟨bi, k, none⟩ = some (.bool (r.l.getD k false)) := fun u => (HS.out _ (K4.out.trans u.2)).there k (by rw [← Hkn.out]; exact Hlt.out)
  have hki : k < r.c.length := by rw [← Hkn.out]; exact Hlt.out
  obtain ⟨B, hB⟩ : ∃ B, r.l.getD k false = B := ⟨_, rfl⟩
  rw [hB] at a4
  have e : W = if B then 9 else 0 := by rw [← HW.out]; unfold Rv.wrong; rw [if_neg G12.out, if_neg (fun q => q Hg3.out), if_neg (fun q => q Hg4.out), if_neg G56.out, if_neg Hg7.out, Hkn.out, hB]
  clear HW hkn hk hB hix
  generalize r.c.length = N at *
  go_wp2_with fail
  refine wp_region_keep (Keep.refl _) (by kernel_rfl) (by kernel_rfl) ?_
  repeat (first | go_big_quiet_step (fail) | quiet_step (fail))
  refine wpQuiet_nil ?_
  rintro v4 ⟨⟨v5, k5⟩, hv⟩
  obtain rfl : v5 = v4 := hv.symm
  have K5 := Lib.hid (K4.out.trans k5)
  clear a1 a3 a4 a5 k5 hv hg
  subst e
  cases B
  · go_wp2
    go_ret
    exact ⟨rfl, HK.out _ K5.out⟩
  · go_wp2
    go_ret
    exact ⟨rfl, HK.out _ K5.out⟩
end
end Go.Proofs.YtifcibmpeolmdaaDoor
