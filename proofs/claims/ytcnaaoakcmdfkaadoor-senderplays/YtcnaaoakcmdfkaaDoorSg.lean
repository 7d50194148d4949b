/- Proved: what the sender's Tick and Ack answer, and what they do to memory. Condition: the sender lies in memory (S); there were at most a million ticks; an answer's Index is an int, its Data has at most a million bytes. -/
import Derived.Test.YtcnaaoakcmdfkaaDoorSf
namespace Go.Proofs.YtcnaaoakcmdfkaaDoor
open Go.RowKit

section
variable {b bm bc : Nat} {s : Sd} {w : World}
set_option maxRecDepth 100000 in
set_option maxHeartbeats 1000000 in
theorem tick_at (h : S w b bm bc s) (hnow : s.now ≤ 1000000) : Calls Tryd.prog 14 #[.pointer (some ⟨b, 0, none⟩)] w fun e w' =>
    ∃ v, e = .returned (.tuple #[v, .int .i64 (s.tickE : Nat)]) ∧ OwnF w.heap.size w' v s.tickF ∧ S w' b bm bc s.tick ∧ Turn [b, bc] w w' := by
  have c5 := h.lost
  have c0 := h.ptr
  have HF := Lib.hid (full_at bm s.l w h.map)
  rw [show decide (baseN s.l = s.l.length) = decide s.full from rfl] at HF
  have HS := Lib.hid h
  by_cases hf : s.full
  · have HE := Lib.hid (show s.tickE = 15 ∧ s.tickF = [] ∧ s.tick = s by unfold Sd.tickE Sd.tickF Sd.tick; rw [if_pos hf, if_pos hf, if_pos hf]; exact ⟨rfl, rfl, rfl⟩)
    rw [decide_eq_true hf] at HF
    clear hf h
    rw [HE.out.1, HE.out.2.1, HE.out.2.2]
    go_enter Tryd.func14, Tryd.ntmps14
    go_wp2_with fail
    refine HF.out.mono ?_
    rintro e w1 ⟨rfl, k1⟩
    have HK := Lib.hid k1
    clear c5 c0 k1
    go_wp2
    go_ret2
    exact ⟨_, rfl, Own.nil _ _, HS.out.keep HK.out, Turn.keep _ HK.out⟩
  · rw [decide_eq_false hf] at HF
    have HL : Hid (∀ w1, Keep w w1 → w1.cell? ⟨b, 5, none⟩ = some (.bool s.lost)) := Lib.hid fun w1 k1 => (h.keep k1).lost
    cases hl : s.lost
    · have HE := Lib.hid (show s.tickE = (if s.on.due.any s.on.over = true then 16 else 0) ∧ s.tickF = (if s.on.due.any s.on.over = true then [] else s.on.due.map s.on.frame) ∧ s.tick = (if s.on.due.any s.on.over = true then s.on.gone else s.on.puts s.on.due) by
        unfold Sd.tickE Sd.tickF Sd.tick
        have hl2 : ¬ s.lost = true := by rw [hl]; simp
        rw [if_neg hf, if_neg hf, if_neg hf, if_neg hl2, if_neg hl2, if_neg hl2]
        exact ⟨rfl, rfl, rfl⟩)
      rw [HE.out.1, HE.out.2.1, HE.out.2.2]
      rw [hl] at HL c5
      have HT := Lib.hid (fun w1 (k1 : Keep w w1) => step_at (h.keep k1) hnow)
      clear hf h hl HE
      generalize (if s.on.due.any s.on.over = true then 16 else 0) = E at *
      generalize (if s.on.due.any s.on.over = true then [] else s.on.due.map s.on.frame) = F at *
      generalize (if s.on.due.any s.on.over = true then s.on.gone else s.on.puts s.on.due) = s' at *
      go_enter Tryd.func14, Tryd.ntmps14
      go_wp2_with fail
      refine HF.out.mono ?_
      rintro e w1 ⟨rfl, k1⟩
      have HK := Lib.hid k1
      have c51 := HL.out w1 k1
      have HT1 := Lib.hid (HT.out w1 k1)
      clear c5 c0 k1 HF HL HT
      go_wp2_with fail
      refine HT1.out.mono ?_
      rintro e w2 ⟨v, rfl, o2, s2, t2⟩
      have HO := Lib.hid (o2.low HK.out.size)
      have HS2 := Lib.hid s2
      have HT2 := Lib.hid (Turn.ofKeep HK.out t2)
      clear o2 s2 t2 HT1 c51
      go_wp2
      go_ret2
      exact ⟨_, rfl, HO.out, HS2.out, HT2.out⟩
    · have HE := Lib.hid (show s.tickE = 16 ∧ s.tickF = [] ∧ s.tick = s by
        unfold Sd.tickE Sd.tickF Sd.tick
        rw [if_neg hf, if_neg hf, if_neg hf, if_pos hl, if_pos hl, if_pos hl]
        exact ⟨rfl, rfl, rfl⟩)
      rw [HE.out.1, HE.out.2.1, HE.out.2.2]
      rw [hl] at HL c5
      clear hf h hl
      go_enter Tryd.func14, Tryd.ntmps14
      go_wp2_with fail
      refine HF.out.mono ?_
      rintro e w1 ⟨rfl, k1⟩
      have HK := Lib.hid k1
      have c51 := HL.out w1 k1
      clear c5 c0 k1 HF HL
      go_wp2
      go_ret2
      exact ⟨_, rfl, Own.nil _ _, HS.out.keep HK.out, Turn.keep _ HK.out⟩
end
end Go.Proofs.YtcnaaoakcmdfkaaDoor
