/- Proved: what the document's Ack of a sender answers, and what it does to memory. Condition: the sender lies in memory (R); an answer's Index is an int, its Data has at most a million bytes. -/
import Derived.Test.YtcnaaoakcmdfkaaDoorRd
namespace Go.Proofs.YtcnaaoakcmdfkaaDoor
open Go.RowKit

theorem OwnO.cells {B : Nat} {w : World} {v : Value} {L : List Bool} (h : OwnO B w v L) : CelO w v L := (Own.row elO h).cells
section
variable {w : World} {g bt ba cap : Nat} {a : Option Addr} {iv : Value} {s : Sd}
set_option maxRecDepth 100000 in
set_option maxHeartbeats 2000000 in
theorem qack_at (f : Fr) (h : R w g bt ba a cap iv s) (hx1 : -9223372036854775808 ≤ f.idx) (hx2 : f.idx ≤ 9223372036854775807) (hd : f.data.length ≤ 1000000) : Calls Tryd.prog 18 #[.pointer (some ⟨g, 0, none⟩), .agg (fc f)] w fun e w' =>
    ∃ iv', e = .returned (.int .i64 (s.ackE f : Nat)) ∧ R w' g bt ba a cap iv' (s.ack f) ∧ (∀ x, iv'.ownBlock = some x → iv.ownBlock = some x ∨ w.heap.size ≤ x) ∧ Turn [g] w w' := by
  have k1 : Keep w (w.alloc (.cells (fc f) 34)) := (Keep.refl w).alloc _
  have hF := FAt.new w f
  have hS := h.keep k1
  have HS := Lib.hid (fun w1 (k : Keep (w.alloc (.cells (fc f) 34)) w1) => hS.keep k)
  have HK := Lib.hid (fun w1 (k : Keep (w.alloc (.cells (fc f) 34)) w1) => (Turn.keep [g] (k1.trans k) : Turn [g] w w1))
  have HFr := Lib.hid (fun w1 (k : Keep (w.alloc (.cells (fc f) 34)) w1) => hF.keep k)
  have f0 := hF.kind
  have HN := Lib.hid h.good.len
  have hg1 := h.lt
  have hg2 := h.ltt
  have hg3 := h.lta
  have hfew := h.good.few
  clear h
  unfold Sd.ack Sd.ackE
  by_cases g1 : f.kind = 2
  rotate_left
  · rw [if_pos g1]
    simp only [Nat.one_ne_zero, if_false]
    have hne : (f.kind != 2) = true := by simpa using g1
    clear g1 k1 hF hS
    generalize fc f = C at *
    generalize f.kind = kd at *
    go_enter Tryd.func18, Tryd.ntmps18
    go_wp2
    go_ret
    exact ⟨iv, rfl, HS.out _ (Keep.refl _), fun x hx => .inl hx, HK.out _ (Keep.refl _)⟩
  have hne : (f.kind != 2) = false := by simpa using g1
  rw [if_neg (by simpa using g1)]
  have a1 : ∀ u : KW (w.alloc (.cells (fc f) 34)), u.1.cell? ⟨w.heap.size, 1, none⟩ = some (.int .i64 f.ses) := fun u => (hF.keep u.2).ses
  have a2 : ∀ u : KW (w.alloc (.cells (fc f) 34)), u.1.cell? ⟨g, 0, none⟩ = some (.int .i64 s.ses) := fun u => (hS.keep u.2).ses
  have k0 := Lib.hid k1
  clear k1 hF hS
  by_cases g2 : f.ses = s.ses
  rotate_left
  · rw [if_pos g2]
    simp only [show ¬ 12 = 0 by omega, if_false]
    have hne2 : (f.ses != s.ses) = true := by simpa using g2
    clear g1 g2
    generalize fc f = C at *
    go_enter Tryd.func18, Tryd.ntmps18
    go_wp2_with fail
    refine wp_region_keep (Keep.refl _) (by kernel_rfl) (by kernel_rfl) ?_
    repeat (first | go_big_quiet_step (fail) | quiet_step (fail))
    refine wpQuiet_nil ?_
    rintro v4 ⟨⟨v5, q5⟩, hv⟩
    obtain rfl : v5 = v4 := hv.symm
    have K5 := Lib.hid q5
    clear hv a1 a2 q5 f0
    go_wp2
    go_ret
    exact ⟨iv, rfl, HS.out _ K5.out, fun x hx => .inl hx, HK.out _ K5.out⟩
  have hne2 : (f.ses != s.ses) = false := by simpa using g2
  rw [if_neg (by simpa using g2)]
  by_cases g3 : f.ep = s.ep
  rotate_left
  · rw [if_pos g3]
    simp only [show ¬ 13 = 0 by omega, if_false]
    have hne3 : (f.ep != s.ep) = true := by simpa using g3
    clear g1 g2 g3
    generalize fc f = C at *
    go_enter Tryd.func18, Tryd.ntmps18
    go_wp2_with fail
    refine wp_region_keep (Keep.refl _) (by kernel_rfl) (by kernel_rfl) ?_
    repeat (first | go_big_quiet_step (fail) | quiet_step (fail))
    refine wpQuiet_nil ?_
    rintro v4 ⟨⟨v5, q5⟩, hv⟩
    obtain rfl : v5 = v4 := hv.symm
    have K5 := Lib.hid q5
    clear hv a1 a2 q5 f0
    have a3 : ∀ u : KW v5, u.1.cell? ⟨w.heap.size, 2, none⟩ = some (.int .i64 f.ep) := fun u => (HFr.out _ (K5.out.trans u.2)).ep
    have a4 : ∀ u : KW v5, u.1.cell? ⟨g, 1, none⟩ = some (.int .i64 s.ep) := fun u => (HS.out _ (K5.out.trans u.2)).ep
    go_wp2_with fail
    refine wp_region_keep (Keep.refl _) (by kernel_rfl) (by kernel_rfl) ?_
    repeat (first | go_big_quiet_step (fail) | quiet_step (fail))
    refine wpQuiet_nil ?_
    rintro v4 ⟨⟨v7, q7⟩, hv⟩
    obtain rfl : v7 = v4 := hv.symm
    have K7 := Lib.hid (K5.out.trans q7)
    clear hv a3 a4 q7
    go_wp2
    go_ret
    exact ⟨iv, rfl, HS.out _ K7.out, fun x hx => .inl hx, HK.out _ K7.out⟩
  have hne3 : (f.ep != s.ep) = false := by simpa using g3
  rw [if_neg (by simpa using g3)]
  by_cases g4 : f.tot = (s.ch.length : Int)
  rotate_left
  · rw [if_pos (Or.inl g4)]
    simp only [show ¬ 14 = 0 by omega, if_false]
    have hne4 : (f.tot != (s.ch.length : Int)) = true := by simpa using g4
    clear g1 g2 g3 g4
    generalize fc f = C at *
    go_enter Tryd.func18, Tryd.ntmps18
    go_wp2_with fail
    refine wp_region_keep (Keep.refl _) (by kernel_rfl) (by kernel_rfl) ?_
    repeat (first | go_big_quiet_step (fail) | quiet_step (fail))
    refine wpQuiet_nil ?_
    rintro v4 ⟨⟨v5, q5⟩, hv⟩
    obtain rfl : v5 = v4 := hv.symm
    have K5 := Lib.hid q5
    clear hv a1 a2 q5 f0
    have a3 : ∀ u : KW v5, u.1.cell? ⟨w.heap.size, 2, none⟩ = some (.int .i64 f.ep) := fun u => (HFr.out _ (K5.out.trans u.2)).ep
    have a4 : ∀ u : KW v5, u.1.cell? ⟨g, 1, none⟩ = some (.int .i64 s.ep) := fun u => (HS.out _ (K5.out.trans u.2)).ep
    go_wp2_with fail
    refine wp_region_keep (Keep.refl _) (by kernel_rfl) (by kernel_rfl) ?_
    repeat (first | go_big_quiet_step (fail) | quiet_step (fail))
    refine wpQuiet_nil ?_
    rintro v4 ⟨⟨v7, q7⟩, hv⟩
    obtain rfl : v7 = v4 := hv.symm
    have K7 := Lib.hid (K5.out.trans q7)
    clear hv a3 a4 q7
    have a5 : ∀ u : KW v7, u.1.cell? ⟨w.heap.size, 4, none⟩ = some (.int .i64 f.tot) := fun u => (HFr.out _ (K7.out.trans u.2)).tot
    have a6 : ∀ u : KW v7, u.1.cell? ⟨w.heap.size, 3, none⟩ = some (.int .i64 f.idx) := fun u => (HFr.out _ (K7.out.trans u.2)).idx
    have a7 : ∀ u : KW v7, u.1.cell? ⟨g, 2, none⟩ = some (.slice a s.ch.length cap) := fun u => (HS.out _ (K7.out.trans u.2)).c
    go_wp2_with fail
    refine wp_region_keep (Keep.refl _) (by kernel_rfl) (by kernel_rfl) ?_
    repeat (first | go_big_quiet_step (fail) | quiet_step (fail))
    refine wpQuiet_nil ?_
    rintro v4 ⟨⟨v9, q9⟩, hv⟩
    obtain rfl : v9 = v4 := hv.symm
    have K9 := Lib.hid (K7.out.trans q9)
    clear hv a5 a6 a7 q9
    go_wp2
    go_ret
    exact ⟨iv, rfl, HS.out _ K9.out, fun x hx => .inl hx, HK.out _ K9.out⟩
  have hne4 : (f.tot != (s.ch.length : Int)) = false := by simpa using g4
  by_cases g5 : f.idx < 0
  · rw [if_pos (Or.inr (Or.inl g5))]
    simp only [show ¬ 14 = 0 by omega, if_false]
    have hne5 : decide (f.idx < 0) = true := decide_eq_true g5
    clear g1 g2 g3 g4 g5
    generalize fc f = C at *
    go_enter Tryd.func18, Tryd.ntmps18
    go_wp2_with fail
    refine wp_region_keep (Keep.refl _) (by kernel_rfl) (by kernel_rfl) ?_
    repeat (first | go_big_quiet_step (fail) | quiet_step (fail))
    refine wpQuiet_nil ?_
    rintro v4 ⟨⟨v5, q5⟩, hv⟩
    obtain rfl : v5 = v4 := hv.symm
    have K5 := Lib.hid q5
    clear hv a1 a2 q5 f0
    have a3 : ∀ u : KW v5, u.1.cell? ⟨w.heap.size, 2, none⟩ = some (.int .i64 f.ep) := fun u => (HFr.out _ (K5.out.trans u.2)).ep
    have a4 : ∀ u : KW v5, u.1.cell? ⟨g, 1, none⟩ = some (.int .i64 s.ep) := fun u => (HS.out _ (K5.out.trans u.2)).ep
    go_wp2_with fail
    refine wp_region_keep (Keep.refl _) (by kernel_rfl) (by kernel_rfl) ?_
    repeat (first | go_big_quiet_step (fail) | quiet_step (fail))
    refine wpQuiet_nil ?_
    rintro v4 ⟨⟨v7, q7⟩, hv⟩
    obtain rfl : v7 = v4 := hv.symm
    have K7 := Lib.hid (K5.out.trans q7)
    clear hv a3 a4 q7
    have a5 : ∀ u : KW v7, u.1.cell? ⟨w.heap.size, 4, none⟩ = some (.int .i64 f.tot) := fun u => (HFr.out _ (K7.out.trans u.2)).tot
    have a6 : ∀ u : KW v7, u.1.cell? ⟨w.heap.size, 3, none⟩ = some (.int .i64 f.idx) := fun u => (HFr.out _ (K7.out.trans u.2)).idx
    have a7 : ∀ u : KW v7, u.1.cell? ⟨g, 2, none⟩ = some (.slice a s.ch.length cap) := fun u => (HS.out _ (K7.out.trans u.2)).c
    go_wp2_with fail
    refine wp_region_keep (Keep.refl _) (by kernel_rfl) (by kernel_rfl) ?_
    repeat (first | go_big_quiet_step (fail) | quiet_step (fail))
    refine wpQuiet_nil ?_
    rintro v4 ⟨⟨v9, q9⟩, hv⟩
    obtain rfl : v9 = v4 := hv.symm
    have K9 := Lib.hid (K7.out.trans q9)
    clear hv a5 a6 a7 q9
    go_wp2
    go_ret
    exact ⟨iv, rfl, HS.out _ K9.out, fun x hx => .inl hx, HK.out _ K9.out⟩
  have hne5 : decide (f.idx < 0) = false := decide_eq_false g5
  by_cases g6 : f.tot < f.idx
  · rw [if_pos (Or.inr (Or.inr g6))]
    simp only [show ¬ 14 = 0 by omega, if_false]
    have hne6 : f.idx > f.tot := g6
    clear g1 g2 g3 g4 g5 g6
    generalize fc f = C at *
    go_enter Tryd.func18, Tryd.ntmps18
    go_wp2_with fail
    refine wp_region_keep (Keep.refl _) (by kernel_rfl) (by kernel_rfl) ?_
    repeat (first | go_big_quiet_step (fail) | quiet_step (fail))
    refine wpQuiet_nil ?_
    rintro v4 ⟨⟨v5, q5⟩, hv⟩
    obtain rfl : v5 = v4 := hv.symm
    have K5 := Lib.hid q5
    clear hv a1 a2 q5 f0
    have a3 : ∀ u : KW v5, u.1.cell? ⟨w.heap.size, 2, none⟩ = some (.int .i64 f.ep) := fun u => (HFr.out _ (K5.out.trans u.2)).ep
    have a4 : ∀ u : KW v5, u.1.cell? ⟨g, 1, none⟩ = some (.int .i64 s.ep) := fun u => (HS.out _ (K5.out.trans u.2)).ep
    go_wp2_with fail
    refine wp_region_keep (Keep.refl _) (by kernel_rfl) (by kernel_rfl) ?_
    repeat (first | go_big_quiet_step (fail) | quiet_step (fail))
    refine wpQuiet_nil ?_
    rintro v4 ⟨⟨v7, q7⟩, hv⟩
    obtain rfl : v7 = v4 := hv.symm
    have K7 := Lib.hid (K5.out.trans q7)
    clear hv a3 a4 q7
    have a5 : ∀ u : KW v7, u.1.cell? ⟨w.heap.size, 4, none⟩ = some (.int .i64 f.tot) := fun u => (HFr.out _ (K7.out.trans u.2)).tot
    have a6 : ∀ u : KW v7, u.1.cell? ⟨w.heap.size, 3, none⟩ = some (.int .i64 f.idx) := fun u => (HFr.out _ (K7.out.trans u.2)).idx
    have a7 : ∀ u : KW v7, u.1.cell? ⟨g, 2, none⟩ = some (.slice a s.ch.length cap) := fun u => (HS.out _ (K7.out.trans u.2)).c
    go_wp2_with fail
    refine wp_region_keep (Keep.refl _) (by kernel_rfl) (by kernel_rfl) ?_
    repeat (first | go_big_quiet_step (fail) | quiet_step (fail))
    refine wpQuiet_nil ?_
    rintro v4 ⟨⟨v9, q9⟩, hv⟩
    obtain rfl : v9 = v4 := hv.symm
    have K9 := Lib.hid (K7.out.trans q9)
    clear hv a5 a6 a7 q9
    go_wp2
    go_ret
    exact ⟨iv, rfl, HS.out _ K9.out, fun x hx => .inl hx, HK.out _ K9.out⟩
  have hne6 : ¬ f.idx > f.tot := g6
  rw [if_neg (fun q => q.elim (fun q => q g4) (fun q => q.elim g5 g6))]
  simp only [if_true]
  clear g1 g2 g3 g4 g5 g6
  generalize fc f = C at *
  go_enter Tryd.func18, Tryd.ntmps18
  go_wp2_with fail
  refine wp_region_keep (Keep.refl _) (by kernel_rfl) (by kernel_rfl) ?_
  repeat (first | go_big_quiet_step (fail) | quiet_step (fail))
  refine wpQuiet_nil ?_
  rintro v4 ⟨⟨v5, q5⟩, hv⟩
  obtain rfl : v5 = v4 := hv.symm
  have K5 := Lib.hid q5
  clear hv a1 a2 q5 f0
  have a3 : ∀ u : KW v5, u.1.cell? ⟨w.heap.size, 2, none⟩ = some (.int .i64 f.ep) := fun u => (HFr.out _ (K5.out.trans u.2)).ep
  have a4 : ∀ u : KW v5, u.1.cell? ⟨g, 1, none⟩ = some (.int .i64 s.ep) := fun u => (HS.out _ (K5.out.trans u.2)).ep
  go_wp2_with fail
  refine wp_region_keep (Keep.refl _) (by kernel_rfl) (by kernel_rfl) ?_
  repeat (first | go_big_quiet_step (fail) | quiet_step (fail))
  refine wpQuiet_nil ?_
  rintro v4 ⟨⟨v7, q7⟩, hv⟩
  obtain rfl : v7 = v4 := hv.symm
  have K7 := Lib.hid (K5.out.trans q7)
  clear hv a3 a4 q7
  have a5 : ∀ u : KW v7, u.1.cell? ⟨w.heap.size, 4, none⟩ = some (.int .i64 f.tot) := fun u => (HFr.out _ (K7.out.trans u.2)).tot
  have a6 : ∀ u : KW v7, u.1.cell? ⟨w.heap.size, 3, none⟩ = some (.int .i64 f.idx) := fun u => (HFr.out _ (K7.out.trans u.2)).idx
  have a7 : ∀ u : KW v7, u.1.cell? ⟨g, 2, none⟩ = some (.slice a s.ch.length cap) := fun u => (HS.out _ (K7.out.trans u.2)).c
  go_wp2_with fail
  refine wp_region_keep (Keep.refl _) (by kernel_rfl) (by kernel_rfl) ?_
  repeat (first | go_big_quiet_step (fail) | quiet_step (fail))
  refine wpQuiet_nil ?_
  rintro v4 ⟨⟨v9, q9⟩, hv⟩
  obtain rfl : v9 = v4 := hv.symm
  have K9 := Lib.hid (K7.out.trans q9)
  clear hv a5 a6 a7 q9
  try rw [decide_eq_false (show ¬ f.tot < f.idx by omega)]
  have hR9 := HS.out _ K9.out
  have hz9 := K9.out.size
  have hz0 := k0.out.size
  have HM := Lib.hid (fun w1 (k : Keep v9 w1) => qmerge iv s.l f.idx f.data w1 (hR9.keep k).inn (by rw [HN.out]; exact hfew) hx1 (by omega) hd)
  have HRk := Lib.hid (fun w1 (k : Keep v9 w1) => hR9.keep k)
  have c1 : v9.drew.cell? ⟨g, 3, none⟩ = some iv := (HRk.out _ (Keep.refl _).drew).i
  have c2 : v9.drew.cell? ⟨w.heap.size, 3, none⟩ = some (.int .i64 f.idx) := (HFr.out _ (K9.out.trans (Keep.refl _).drew)).idx
  have c3 : v9.drew.cell? ⟨w.heap.size, 5, none⟩ = some (.string ⟨f.data.toArray⟩) := (HFr.out _ (K9.out.trans (Keep.refl _).drew)).data
  clear hR9
  go_wp2_with fail
  go_region_with (go_at_call 35; refine (HM.out _ (Keep.refl v9).drew).mono ?_; rintro e v11 ⟨u, rfl, o11, k11⟩; have c11 := (HRk.out _ ((Keep.refl v9).drew.trans k11)).i; have f11 := (HRk.out _ ((Keep.refl v9).drew.trans k11)).free 3; obtain ⟨ua, ucap, rfl, _, _⟩ := (Own.row elO o11).cells.form)
  all_goals
    have hblk := Own.block o11
    have hz11 := k11.size
    have hzd : v9.drew.heap.size = v9.heap.size := rfl
    have HE := Lib.hid ((HRk.out _ ((Keep.refl v9).drew.trans k11)).setIn (OwnO.cells o11) (merL_len _ _ _) (fun x hx => by have := (hblk x hx).1; omega))
    have HX := Lib.hid (fun x hx => (show w.heap.size ≤ x by have := (hblk x hx).1; omega))
    have HT := Lib.hid (Turn.ofKeep (Keep.trans (Keep.trans k0.out K9.out) ((Keep.refl v9).drew.trans k11)) (Turn.setCell v11 g 3 (.slice ua (merL s.l f.idx f.data).length ucap) (by simp) : Turn [g] v11 _))
    clear c1 c2 c3 c11 f11 o11 k11 HM hblk
    go_wp2
    go_ret
    exact ⟨_, rfl, HE.out, fun x hx => .inr (HX.out x hx), HT.out⟩
end
end Go.Proofs.YtcnaaoakcmdfkaaDoor
