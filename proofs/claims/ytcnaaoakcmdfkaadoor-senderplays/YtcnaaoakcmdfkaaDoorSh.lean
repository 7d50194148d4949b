/- Proved: what the sender's Ack answers, and what it does to memory. Condition: the sender lies in memory (S); an answer's Index is an int, its Data has at most a million bytes. -/
import Derived.Test.YtcnaaoakcmdfkaaDoorSg
namespace Go.Proofs.YtcnaaoakcmdfkaaDoor
open Go.RowKit

section
variable {b bm bc : Nat} {s : Sd} {w : World}
theorem S.setMap (h : S w b bm bc s) {w' : World} {l : List Bool} (hm : M w' bm l) (hl : l.length = s.l.length) (t : Turn [bm] w w') : S w' b bm bc { s with l := l } :=
  ⟨t.obj h.block (by simp; exact h.ne1), t.obj h.chunks (by simp; exact Ne.symm h.ne3), hm, h.pos, h.posc, h.ne1, h.ne2, h.ne3, ⟨by show l.length = _; rw [hl]; exact h.good.len, h.good.pos, h.good.few, h.good.tries, h.good.last⟩⟩
set_option maxRecDepth 100000 in
set_option maxHeartbeats 1000000 in
theorem ack_at (f : Fr) (h : S w b bm bc s) (hx1 : -9223372036854775808 ≤ f.idx) (hx2 : f.idx ≤ 9223372036854775807) (hd : f.data.length ≤ 1000000) : Calls Tryd.prog 17 #[.pointer (some ⟨b, 0, none⟩), .agg (fc f)] w fun e w' =>
    e = .returned (.int .i64 (s.ackE f : Nat)) ∧ S w' b bm bc (s.ack f) ∧ Turn [bm] w w' := by
  have k1 : Keep w (w.alloc (.cells (fc f) 34)) := (Keep.refl w).alloc _
  have hF := FAt.new w f
  have hS := h.keep k1
  have HS := Lib.hid (fun w1 (k : Keep (w.alloc (.cells (fc f) 34)) w1) => hS.keep k)
  have HK := Lib.hid (fun w1 (k : Keep (w.alloc (.cells (fc f) 34)) w1) => (Turn.keep [bm] (k1.trans k) : Turn [bm] w w1))
  have HFr := Lib.hid (fun w1 (k : Keep (w.alloc (.cells (fc f) 34)) w1) => hF.keep k)
  have f0 := hF.kind
  have HN := Lib.hid h.good.len
  clear h
  unfold Sd.ack Sd.ackE
  by_cases g1 : f.kind = 2
  rotate_left
  · rw [if_pos g1]
    simp only [Nat.one_ne_zero, if_false]
    have hne : (f.kind != 2) = true := by simpa using g1
    clear g1 k1 hF hS
    generalize fc f = C at *
    generalize f.kind = kd at *
    go_enter Tryd.func17, Tryd.ntmps17
    go_wp2
    go_ret
    exact ⟨rfl, HS.out _ (Keep.refl _), HK.out _ (Keep.refl _)⟩
  have hne : (f.kind != 2) = false := by simpa using g1
  rw [if_neg (by simpa using g1)]
  have a1 : ∀ u : KW (w.alloc (.cells (fc f) 34)), u.1.cell? ⟨w.heap.size, 1, none⟩ = some (.int .i64 f.ses) := fun u => (hF.keep u.2).ses
  have a2 : ∀ u : KW (w.alloc (.cells (fc f) 34)), u.1.cell? ⟨b, 1, none⟩ = some (.int .i64 s.ses) := fun u => (hS.keep u.2).ses
  by_cases g2 : f.ses = s.ses
  rotate_left
  · rw [if_pos g2]
    simp only [show ¬ 12 = 0 by omega, if_false]
    have hne2 : (f.ses != s.ses) = true := by simpa using g2
    clear g1 g2 k1 hF hS
    generalize fc f = C at *
    generalize f.kind = kd at *
    generalize f.ses = x1 at *
    generalize s.ses = x2 at *
    go_enter Tryd.func17, Tryd.ntmps17
    go_wp2_with fail
    refine wp_region_keep (Keep.refl _) (by kernel_rfl) (by kernel_rfl) ?_
    repeat (first | go_big_quiet_step (fail) | quiet_step (fail))
    refine wpQuiet_nil ?_
    rintro v4 ⟨⟨v5, k5⟩, hv⟩
    obtain rfl : v5 = v4 := hv.symm
    have HS5 := Lib.hid (HS.out v5 k5)
    have HK5 := Lib.hid (HK.out v5 k5)
    clear hv a1 a2 k5
    go_wp2
    go_ret
    exact ⟨rfl, HS5.out, HK5.out⟩
  have hne2 : (f.ses != s.ses) = false := by simpa using g2
  rw [if_neg (by simpa using g2)]
  have k0 := Lib.hid k1
  clear k1 hF hS
  by_cases g3 : f.ep = s.ep
  rotate_left
  · rw [if_pos g3]
    simp only [show ¬ 13 = 0 by omega, if_false]
    have hne3 : (f.ep != s.ep) = true := by simpa using g3
    clear g1 g2 g3
    generalize fc f = C at *
    go_enter Tryd.func17, Tryd.ntmps17
    go_wp2_with fail
    refine wp_region_keep (Keep.refl _) (by kernel_rfl) (by kernel_rfl) ?_
    repeat (first | go_big_quiet_step (fail) | quiet_step (fail))
    refine wpQuiet_nil ?_
    rintro v4 ⟨⟨v5, q5⟩, hv⟩
    obtain rfl : v5 = v4 := hv.symm
    have K5 := Lib.hid q5
    clear hv a1 a2 q5 f0
    have a3 : ∀ u : KW v5, u.1.cell? ⟨w.heap.size, 2, none⟩ = some (.int .i64 f.ep) := fun u => (HFr.out _ (K5.out.trans u.2)).ep
    have a4 : ∀ u : KW v5, u.1.cell? ⟨b, 2, none⟩ = some (.int .i64 s.ep) := fun u => (HS.out _ (K5.out.trans u.2)).ep
    go_wp2_with fail
    refine wp_region_keep (Keep.refl _) (by kernel_rfl) (by kernel_rfl) ?_
    repeat (first | go_big_quiet_step (fail) | quiet_step (fail))
    refine wpQuiet_nil ?_
    rintro v4 ⟨⟨v7, q7⟩, hv⟩
    obtain rfl : v7 = v4 := hv.symm
    have K7 := Lib.hid (K5.out.trans q7)
    clear hv a3 a4 q7
    go_wp2
    go_ret
    exact ⟨rfl, HS.out _ K7.out, HK.out _ K7.out⟩
  have hne3 : (f.ep != s.ep) = false := by simpa using g3
  rw [if_neg (by simpa using g3)]
  by_cases g4 : f.tot = (s.ch.length : Int)
  rotate_left
  · rw [if_pos (Or.inl g4)]
    simp only [show ¬ 14 = 0 by omega, if_false]
    have hne4 : (f.tot != (s.ch.length : Int)) = true := by simpa using g4
    clear g1 g2 g3 g4
    generalize fc f = C at *
    go_enter Tryd.func17, Tryd.ntmps17
    go_wp2_with fail
    refine wp_region_keep (Keep.refl _) (by kernel_rfl) (by kernel_rfl) ?_
    repeat (first | go_big_quiet_step (fail) | quiet_step (fail))
    refine wpQuiet_nil ?_
    rintro v4 ⟨⟨v5, q5⟩, hv⟩
    obtain rfl : v5 = v4 := hv.symm
    have K5 := Lib.hid q5
    clear hv a1 a2 q5 f0
    have a3 : ∀ u : KW v5, u.1.cell? ⟨w.heap.size, 2, none⟩ = some (.int .i64 f.ep) := fun u => (HFr.out _ (K5.out.trans u.2)).ep
    have a4 : ∀ u : KW v5, u.1.cell? ⟨b, 2, none⟩ = some (.int .i64 s.ep) := fun u => (HS.out _ (K5.out.trans u.2)).ep
    go_wp2_with fail
    refine wp_region_keep (Keep.refl _) (by kernel_rfl) (by kernel_rfl) ?_
    repeat (first | go_big_quiet_step (fail) | quiet_step (fail))
    refine wpQuiet_nil ?_
    rintro v4 ⟨⟨v7, q7⟩, hv⟩
    obtain rfl : v7 = v4 := hv.symm
    have K7 := Lib.hid (K5.out.trans q7)
    clear hv a3 a4 q7
    have a5 : ∀ u : KW v7, u.1.cell? ⟨w.heap.size, 4, none⟩ = some (.int .i64 f.tot) := fun u => (HFr.out _ (K7.out.trans u.2)).tot
    have a6 : ∀ u : KW v7, u.1.cell? ⟨w.heap.size, 3, none⟩ = some (.int .i64 f.idx) := fun u => (HFr.out _ (K7.out.trans u.2)).idx
    have a7 : ∀ u : KW v7, u.1.cell? ⟨b, 0, none⟩ = some (.pointer (some ⟨bm, 0, none⟩)) := fun u => (HS.out _ (K7.out.trans u.2)).ptr
    have HL : Hid (∀ u : KW v7, Calls Tryd.prog 33 #[.pointer (some ⟨bm, 0, none⟩)] u.1 fun e w'' => e = .returned (.int .i64 (s.ch.length : Nat)) ∧ ∃ m : KW v7, w'' = m.1) := Lib.hid fun u => keep_at (fun w1 k1 => by
      refine (len_at bm s.l w1 (HS.out _ (K7.out.trans k1)).map).mono ?_
      rintro e w2 ⟨rfl, rfl⟩
      exact ⟨by rw [HN.out], Keep.refl _⟩) u
    go_wp2_with fail
    refine wp_region_keep (Keep.refl _) (by kernel_rfl) (by kernel_rfl) ?_
    repeat (first | go_big_quiet_step (fail) | quiet_step (fail))
    first | go_big_quiet_step (exact HL.out _) | quiet_step (exact HL.out _)
    repeat (first | go_big_quiet_step (fail) | quiet_step (fail))
    refine wpQuiet_nil ?_
    rintro v4 ⟨⟨v9, q9⟩, hv⟩
    obtain rfl : v9 = v4 := hv.symm
    have K9 := Lib.hid (K7.out.trans q9)
    clear hv a5 a6 a7 q9 HL
    go_wp2
    go_ret
    exact ⟨rfl, HS.out _ K9.out, HK.out _ K9.out⟩
  have hne4 : (f.tot != (s.ch.length : Int)) = false := by simpa using g4
  by_cases g5 : f.idx < 0
  · rw [if_pos (Or.inr (Or.inl g5))]
    simp only [show ¬ 14 = 0 by omega, if_false]
    have hne5 : decide (f.idx < 0) = true := decide_eq_true g5
    clear g1 g2 g3 g4 g5
    generalize fc f = C at *
    go_enter Tryd.func17, Tryd.ntmps17
    go_wp2_with fail
    refine wp_region_keep (Keep.refl _) (by kernel_rfl) (by kernel_rfl) ?_
    repeat (first | go_big_quiet_step (fail) | quiet_step (fail))
    refine wpQuiet_nil ?_
    rintro v4 ⟨⟨v5, q5⟩, hv⟩
    obtain rfl : v5 = v4 := hv.symm
    have K5 := Lib.hid q5
    clear hv a1 a2 q5 f0
    have a3 : ∀ u : KW v5, u.1.cell? ⟨w.heap.size, 2, none⟩ = some (.int .i64 f.ep) := fun u => (HFr.out _ (K5.out.trans u.2)).ep
    have a4 : ∀ u : KW v5, u.1.cell? ⟨b, 2, none⟩ = some (.int .i64 s.ep) := fun u => (HS.out _ (K5.out.trans u.2)).ep
    go_wp2_with fail
    refine wp_region_keep (Keep.refl _) (by kernel_rfl) (by kernel_rfl) ?_
    repeat (first | go_big_quiet_step (fail) | quiet_step (fail))
    refine wpQuiet_nil ?_
    rintro v4 ⟨⟨v7, q7⟩, hv⟩
    obtain rfl : v7 = v4 := hv.symm
    have K7 := Lib.hid (K5.out.trans q7)
    clear hv a3 a4 q7
    have a5 : ∀ u : KW v7, u.1.cell? ⟨w.heap.size, 4, none⟩ = some (.int .i64 f.tot) := fun u => (HFr.out _ (K7.out.trans u.2)).tot
    have a6 : ∀ u : KW v7, u.1.cell? ⟨w.heap.size, 3, none⟩ = some (.int .i64 f.idx) := fun u => (HFr.out _ (K7.out.trans u.2)).idx
    have a7 : ∀ u : KW v7, u.1.cell? ⟨b, 0, none⟩ = some (.pointer (some ⟨bm, 0, none⟩)) := fun u => (HS.out _ (K7.out.trans u.2)).ptr
    have HL : Hid (∀ u : KW v7, Calls Tryd.prog 33 #[.pointer (some ⟨bm, 0, none⟩)] u.1 fun e w'' => e = .returned (.int .i64 (s.ch.length : Nat)) ∧ ∃ m : KW v7, w'' = m.1) := Lib.hid fun u => keep_at (fun w1 k1 => by
      refine (len_at bm s.l w1 (HS.out _ (K7.out.trans k1)).map).mono ?_
      rintro e w2 ⟨rfl, rfl⟩
      exact ⟨by rw [HN.out], Keep.refl _⟩) u
    go_wp2_with fail
    refine wp_region_keep (Keep.refl _) (by kernel_rfl) (by kernel_rfl) ?_
    repeat (first | go_big_quiet_step (fail) | quiet_step (fail))
    first | go_big_quiet_step (exact HL.out _) | quiet_step (exact HL.out _)
    repeat (first | go_big_quiet_step (fail) | quiet_step (fail))
    refine wpQuiet_nil ?_
    rintro v4 ⟨⟨v9, q9⟩, hv⟩
    obtain rfl : v9 = v4 := hv.symm
    have K9 := Lib.hid (K7.out.trans q9)
    clear hv a5 a6 a7 q9 HL
    go_wp2
    go_ret
    exact ⟨rfl, HS.out _ K9.out, HK.out _ K9.out⟩
  have hne5 : decide (f.idx < 0) = false := decide_eq_false g5
  by_cases g6 : f.tot < f.idx
  · rw [if_pos (Or.inr (Or.inr g6))]
    simp only [show ¬ 14 = 0 by omega, if_false]
    have hne6 : f.idx > f.tot := g6
    clear g1 g2 g3 g4 g5 g6
    generalize fc f = C at *
    go_enter Tryd.func17, Tryd.ntmps17
    go_wp2_with fail
    refine wp_region_keep (Keep.refl _) (by kernel_rfl) (by kernel_rfl) ?_
    repeat (first | go_big_quiet_step (fail) | quiet_step (fail))
    refine wpQuiet_nil ?_
    rintro v4 ⟨⟨v5, q5⟩, hv⟩
    obtain rfl : v5 = v4 := hv.symm
    have K5 := Lib.hid q5
    clear hv a1 a2 q5 f0
    have a3 : ∀ u : KW v5, u.1.cell? ⟨w.heap.size, 2, none⟩ = some (.int .i64 f.ep) := fun u => (HFr.out _ (K5.out.trans u.2)).ep
    have a4 : ∀ u : KW v5, u.1.cell? ⟨b, 2, none⟩ = some (.int .i64 s.ep) := fun u => (HS.out _ (K5.out.trans u.2)).ep
    go_wp2_with fail
    refine wp_region_keep (Keep.refl _) (by kernel_rfl) (by kernel_rfl) ?_
    repeat (first | go_big_quiet_step (fail) | quiet_step (fail))
    refine wpQuiet_nil ?_
    rintro v4 ⟨⟨v7, q7⟩, hv⟩
    obtain rfl : v7 = v4 := hv.symm
    have K7 := Lib.hid (K5.out.trans q7)
    clear hv a3 a4 q7
    have a5 : ∀ u : KW v7, u.1.cell? ⟨w.heap.size, 4, none⟩ = some (.int .i64 f.tot) := fun u => (HFr.out _ (K7.out.trans u.2)).tot
    have a6 : ∀ u : KW v7, u.1.cell? ⟨w.heap.size, 3, none⟩ = some (.int .i64 f.idx) := fun u => (HFr.out _ (K7.out.trans u.2)).idx
    have a7 : ∀ u : KW v7, u.1.cell? ⟨b, 0, none⟩ = some (.pointer (some ⟨bm, 0, none⟩)) := fun u => (HS.out _ (K7.out.trans u.2)).ptr
    have HL : Hid (∀ u : KW v7, Calls Tryd.prog 33 #[.pointer (some ⟨bm, 0, none⟩)] u.1 fun e w'' => e = .returned (.int .i64 (s.ch.length : Nat)) ∧ ∃ m : KW v7, w'' = m.1) := Lib.hid fun u => keep_at (fun w1 k1 => by
      refine (len_at bm s.l w1 (HS.out _ (K7.out.trans k1)).map).mono ?_
      rintro e w2 ⟨rfl, rfl⟩
      exact ⟨by rw [HN.out], Keep.refl _⟩) u
    go_wp2_with fail
    refine wp_region_keep (Keep.refl _) (by kernel_rfl) (by kernel_rfl) ?_
    repeat (first | go_big_quiet_step (fail) | quiet_step (fail))
    first | go_big_quiet_step (exact HL.out _) | quiet_step (exact HL.out _)
    repeat (first | go_big_quiet_step (fail) | quiet_step (fail))
    refine wpQuiet_nil ?_
    rintro v4 ⟨⟨v9, q9⟩, hv⟩
    obtain rfl : v9 = v4 := hv.symm
    have K9 := Lib.hid (K7.out.trans q9)
    clear hv a5 a6 a7 q9 HL
    go_wp2
    go_ret
    exact ⟨rfl, HS.out _ K9.out, HK.out _ K9.out⟩
  have hne6 : ¬ f.idx > f.tot := g6
  rw [if_neg (fun q => q.elim (fun q => q g4) (fun q => q.elim g5 g6))]
  simp only [if_true]
  clear g1 g2 g3 g4 g5 g6
  generalize fc f = C at *
  go_enter Tryd.func17, Tryd.ntmps17
  go_wp2_with fail
  refine wp_region_keep (Keep.refl _) (by kernel_rfl) (by kernel_rfl) ?_
  repeat (first | go_big_quiet_step (fail) | quiet_step (fail))
  refine wpQuiet_nil ?_
  rintro v4 ⟨⟨v5, q5⟩, hv⟩
  obtain rfl : v5 = v4 := hv.symm
  have K5 := Lib.hid q5
  clear hv a1 a2 q5 f0
  have a3 : ∀ u : KW v5, u.1.cell? ⟨w.heap.size, 2, none⟩ = some (.int .i64 f.ep) := fun u => (HFr.out _ (K5.out.trans u.2)).ep
  have a4 : ∀ u : KW v5, u.1.cell? ⟨b, 2, none⟩ = some (.int .i64 s.ep) := fun u => (HS.out _ (K5.out.trans u.2)).ep
  go_wp2_with fail
  refine wp_region_keep (Keep.refl _) (by kernel_rfl) (by kernel_rfl) ?_
  repeat (first | go_big_quiet_step (fail) | quiet_step (fail))
  refine wpQuiet_nil ?_
  rintro v4 ⟨⟨v7, q7⟩, hv⟩
  obtain rfl : v7 = v4 := hv.symm
  have K7 := Lib.hid (K5.out.trans q7)
  clear hv a3 a4 q7
  have a5 : ∀ u : KW v7, u.1.cell? ⟨w.heap.size, 4, none⟩ = some (.int .i64 f.tot) := fun u => (HFr.out _ (K7.out.trans u.2)).tot
  have a6 : ∀ u : KW v7, u.1.cell? ⟨w.heap.size, 3, none⟩ = some (.int .i64 f.idx) := fun u => (HFr.out _ (K7.out.trans u.2)).idx
  have a7 : ∀ u : KW v7, u.1.cell? ⟨b, 0, none⟩ = some (.pointer (some ⟨bm, 0, none⟩)) := fun u => (HS.out _ (K7.out.trans u.2)).ptr
  have HL : Hid (∀ u : KW v7, Calls Tryd.prog 33 #[.pointer (some ⟨bm, 0, none⟩)] u.1 fun e w'' => e = .returned (.int .i64 (s.ch.length : Nat)) ∧ ∃ m : KW v7, w'' = m.1) := Lib.hid fun u => keep_at (fun w1 k1 => by
    refine (len_at bm s.l w1 (HS.out _ (K7.out.trans k1)).map).mono ?_
    rintro e w2 ⟨rfl, rfl⟩
    exact ⟨by rw [HN.out], Keep.refl _⟩) u
  go_wp2_with fail
  refine wp_region_keep (Keep.refl _) (by kernel_rfl) (by kernel_rfl) ?_
  repeat (first | go_big_quiet_step (fail) | quiet_step (fail))
  first | go_big_quiet_step (exact HL.out _) | quiet_step (exact HL.out _)
  repeat (first | go_big_quiet_step (fail) | quiet_step (fail))
  refine wpQuiet_nil ?_
  rintro v4 ⟨⟨v9, q9⟩, hv⟩
  obtain rfl : v9 = v4 := hv.symm
  have K9 := Lib.hid (K7.out.trans q9)
  clear hv a5 a6 a7 q9 HL
  rw [decide_eq_false (show ¬ f.tot < f.idx by omega)]
  have HM := Lib.hid (fun w1 (k : Keep v9 w1) => merge_at bm s.l f.idx f.data w1 (HS.out _ (K9.out.trans k)).map hx1 (by omega) hd)
  have c1 : v9.drew.cell? ⟨b, 0, none⟩ = some (.pointer (some ⟨bm, 0, none⟩)) := (HS.out _ (K9.out.trans (Keep.refl _).drew)).ptr
  have c2 : v9.drew.cell? ⟨w.heap.size, 3, none⟩ = some (.int .i64 f.idx) := (HFr.out _ (K9.out.trans (Keep.refl _).drew)).idx
  have c3 : v9.drew.cell? ⟨w.heap.size, 5, none⟩ = some (.string ⟨f.data.toArray⟩) := (HFr.out _ (K9.out.trans (Keep.refl _).drew)).data
  go_wp2_with fail
  go_region_with (go_at_call 34; refine (HM.out _ (Keep.refl v9).drew).mono ?_; rintro e v11 ⟨rfl, m11, o11⟩)
  all_goals
    have HT := Lib.hid (Turn.ofKeep (Keep.trans (Keep.trans k0.out K9.out) (Keep.refl v9).drew) (Turn.only o11 (by simp) : Turn [bm] v9.drew v11))
    have HE := Lib.hid ((HS.out _ (K9.out.trans (Keep.refl v9).drew)).setMap m11 (merL_len _ _ _) (Turn.only o11 (by simp)))
    clear c1 c2 c3 m11 o11 HM
    go_wp2
    go_ret
    exact ⟨rfl, HE.out, HT.out⟩
end
end Go.Proofs.YtcnaaoakcmdfkaaDoor
