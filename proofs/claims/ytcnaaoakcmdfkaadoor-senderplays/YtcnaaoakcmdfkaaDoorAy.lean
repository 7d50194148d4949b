/- Proved: the laws' first line, of answers that the document fixes, is true, and turns nothing that was there. Condition: the library's table is as its text lays it. -/
import Derived.Test.YtcnaaoakcmdfkaaDoorAw
namespace Go.Proofs.YtcnaaoakcmdfkaaDoor
open Go.RowKit

def A0 : Sd := newS 7 8 [[97], [98], [99]]
def f1 : Fr := ⟨2, 7, 8, 1, 3, [1]⟩
def f2 : Fr := ⟨2, 6, 8, 1, 3, []⟩
def f3 : Fr := ⟨2, 7, 8, 3, 3, []⟩
def A1 : Sd := A0.tick
def A2 : Sd := A1.tick
def A3 : Sd := A2.ack f1
def A4 : Sd := A3.tick
def A5 : Sd := A4.tick
def A6 : Sd := A5.tick
def A7 : Sd := A6.ack f3
theorem awm : mayP 7 8 [[97], [98], [99]] := by decide +kernel
theorem awn : ¬ mayP 7 8 [] := by decide +kernel
theorem aw1 : A0.tickE = 0 ∧ A0.tickF.length = 3 := by decide +kernel
theorem aw2 : A1.tickF.length = 0 := by decide +kernel
theorem aw3 : A2.ackE f1 = 0 ∧ A3.ackE f2 = 12 := by decide +kernel
theorem aw4 : A5.tickF = [⟨1, 7, 8, 1, 3, [98]⟩] := by decide +kernel
theorem aw5 : hasB A6.l 2 = true ∧ A6.ackE f3 = 0 := by decide +kernel
theorem aw6 : decide A7.full = true ∧ A7.tickE = 15 := by decide +kernel
theorem aw7 : A7.tick.tries 1 = 2 ∧ decide A7.tick.full = true := by decide +kernel
theorem aw8 : A3.ack f2 = A3 := by unfold Sd.ack; rw [if_neg (by rw [aw3.2]; decide)]
theorem awnow : A0.now ≤ 1000000 ∧ A1.now ≤ 1000000 ∧ A3.now ≤ 1000000 ∧ A4.now ≤ 1000000 ∧ A5.now ≤ 1000000 ∧ A7.now ≤ 1000000 := by decide +kernel
theorem three_text (w : World) (a b c : List UInt8) : TexS (w.alloc (.cells #[.string ⟨a.toArray⟩, .string ⟨b.toArray⟩, .string ⟨c.toArray⟩] 9)) (.slice (some ⟨w.heap.size, 0, none⟩) 3 3) [a, b, c] := by
  refine .inr ⟨w.heap.size, 0, 3, rfl, Nat.le_refl _, by unfold maxLen; omega, by simp, fun j u hj => ?_⟩
  have hj0 : j < 3 := by
    have := (List.getElem?_eq_some_iff.1 hj).1
    simpa [flat, se] using this
  rcases (show j = 0 ∨ j = 1 ∨ j = 2 by omega) with rfl | rfl | rfl
  all_goals
    simp [flat, se] at hj
    subst hj
    exact cell_obj (heap_alloc_last w _) rfl

set_option maxRecDepth 100000 in
set_option maxHeartbeats 1000000 in
theorem awake (w : World) (ht : Tab w) : Calls Tryd.prog 9 #[] w fun e w' => e = .returned (.bool true) ∧ Keep w w' := by
  have HT := Lib.hid ht
  have hk0 := Lib.hid (fun a b c => (show Keep w (w.alloc (.cells #[.string ⟨(a : List UInt8).toArray⟩, .string ⟨(b : List UInt8).toArray⟩, .string ⟨(c : List UInt8).toArray⟩] 9)) from (Keep.refl w).alloc _))
  have HN := Lib.hid (snew_at 7 8 _ _ _ ((ht.keep (hk0.out [97] [98] [99]))) (three_text w [97] [98] [99]) (by decide))
  have HB1 := Lib.hid (fun w => build_frame 2 7 8 1 3 [1] w)
  have HB2 := Lib.hid (fun w => build_frame5 2 6 8 1 3 w)
  have HB3 := Lib.hid (fun w => build_frame5 2 7 8 3 3 w)
  clear ht
  go_enter Tryd.func9, Tryd.ntmps9
  go_wp2_with fail
  refine HN.out.mono ?_
  rintro e v1 (⟨_, b, bm, bc, rfl, s0, g1, g2, g3, k1⟩ | ⟨h, _⟩)
  rotate_left
  · exact absurd awm h
  have HS0 := Lib.hid (show S v1 b bm bc A0 from s0)
  have HK1 := Lib.hid ((hk0.out [97] [98] [99]).trans k1)
  have hb1 := s0.lt
  have hb2 := s0.map.lt
  have hb3 := s0.ltc
  have hsz := (hk0.out [97] [98] [99]).size
  have HG := Lib.hid (show w.heap.size ≤ b ∧ w.heap.size ≤ bm ∧ w.heap.size ≤ bc from ⟨by omega, by omega, by omega⟩)
  have HNN := Lib.hid (snew_at 7 8 (.slice none 0 0) [] v1 (HT.out.keep HK1.out) (Cells.nil v1) (by decide))
  clear s0 k1 g1 g2 g3 HN hk0 hsz
  go_wp2_with fail
  refine HNN.out.mono ?_
  rintro e v2 (⟨h, _⟩ | ⟨_, rfl, k2⟩)
  · exact absurd h awn
  have HS2 := Lib.hid (HS0.out.keep k2)
  have HT2 := Lib.hid (Turn.keep [b, bm, bc] k2)
  have hz2 := k2.size
  clear k2 HNN
  go_wp2_with fail
  refine (tick_at HS2.out awnow.1).mono ?_
  rintro e v3 ⟨l3, rfl, o3, s3, t3⟩
  rw [aw1.1]
  obtain ⟨la, lcap, rfl, _, _⟩ := o3.cells.form
  rw [aw1.2]
  have HS3 := Lib.hid (show S v3 b bm bc A1 from s3)
  have HT3 := Lib.hid (HT2.out.trans (t3.mono (by simp) : Turn [b, bm, bc] v2 v3))
  have hz3 := t3.size
  clear o3 s3 t3 HS2
  go_wp2_with fail
  refine (tick_at HS3.out awnow.2.1).mono ?_
  rintro e v4 ⟨l4, rfl, o4, s4, t4⟩
  obtain ⟨ma, mcap, rfl, _, _⟩ := o4.cells.form
  rw [aw2]
  have HS4 := Lib.hid (show S v4 b bm bc A2 from s4)
  have HT4 := Lib.hid (HT3.out.trans (t4.mono (by simp) : Turn [b, bm, bc] v3 v4))
  have hz4 := t4.size
  clear o4 s4 t4 HS3
  go_wp2_with ((with_reducible refine at_build (t := 34) [(0, .int .i64 2), (1, .int .i64 7), (2, .int .i64 8), (3, .int .i64 1), (4, .int .i64 3), (5, .string ⟨#[1]⟩)] ?_ (.agg (fc f1)) ?_ ?_); rfl; exact HB1.out _)
  refine (ack_at f1 HS4.out (by decide) (by decide) (by decide)).mono ?_
  rintro e v5 ⟨rfl, s5, t5⟩
  rw [aw3.1]
  have HS5 := Lib.hid (show S v5 b bm bc A3 from s5)
  have HT5 := Lib.hid (HT4.out.trans (t5.mono (by simp) : Turn [b, bm, bc] v4 v5))
  have hz5 := t5.size
  clear s5 t5 HS4
  go_wp2_with ((with_reducible refine at_build (t := 34) [(0, .int .i64 2), (1, .int .i64 6), (2, .int .i64 8), (3, .int .i64 1), (4, .int .i64 3)] ?_ (.agg (fc f2)) ?_ ?_); rfl; exact HB2.out _)
  refine (ack_at f2 HS5.out (by decide) (by decide) (by decide)).mono ?_
  rintro e v6 ⟨rfl, s6, t6⟩
  rw [aw8] at s6
  rw [aw3.2]
  have HS6 := Lib.hid (show S v6 b bm bc A3 from s6)
  have HT6 := Lib.hid (HT5.out.trans (t6.mono (by simp) : Turn [b, bm, bc] v5 v6))
  have hz6 := t6.size
  clear s6 t6 HS5
  go_wp2_with fail
  refine (tick_at HS6.out awnow.2.2.1).mono ?_
  rintro e v7 ⟨l7, rfl, o7, s7, t7⟩
  have HS7 := Lib.hid (show S v7 b bm bc A4 from s7)
  have HT7 := Lib.hid (HT6.out.trans (t7.mono (by simp) : Turn [b, bm, bc] v6 v7))
  have hz7 := t7.size
  clear o7 s7 t7 HS6
  go_wp2_with fail
  refine (tick_at HS7.out awnow.2.2.2.1).mono ?_
  rintro e v8 ⟨l8, rfl, o8, s8, t8⟩
  have HS8 := Lib.hid (show S v8 b bm bc A5 from s8)
  have HT8 := Lib.hid (HT7.out.trans (t8.mono (by simp) : Turn [b, bm, bc] v7 v8))
  have hz8 := t8.size
  clear o8 s8 t8 HS7
  go_wp2_with fail
  refine (tick_at HS8.out awnow.2.2.2.2.1).mono ?_
  rintro e v9 ⟨l9, rfl, o9, s9, t9⟩
  rw [aw4] at o9
  have HS9 := Lib.hid (show S v9 b bm bc A6 from s9)
  have HT9 := Lib.hid (HT8.out.trans (t9.mono (by simp) : Turn [b, bm, bc] v8 v9))
  have hz9 := t9.size
  obtain ⟨ng, no, ncap, rfl, _, _, _⟩ := o9.cells.ptr 0 (by simp)
  have HO9 := Lib.hid o9
  have HU9 := Lib.hid (Turn.refl [b, bm, bc] v9)
  clear o9 s9 t9 HS8
  go_wp2_with fail
  refine (there_at HS9.out).mono ?_
  rintro e v10 ⟨c, rfl, hc, m10, k10⟩
  have HM10 := Lib.hid m10
  have HS10 := Lib.hid (HS9.out.keep k10)
  have HT10 := Lib.hid (HT9.out.thenKeep k10)
  have HU10 := Lib.hid (HU9.out.thenKeep k10)
  have hz10 := k10.size
  clear m10 k10 HS9
  go_wp2_with fail
  refine (has_at c A6.l 2 v10 HM10.out).mono ?_
  rintro e v11 ⟨rfl, k11⟩
  rw [aw5.1]
  have HS11 := Lib.hid (HS10.out.keep k11)
  have HT11 := Lib.hid (HT10.out.thenKeep k11)
  have HU11 := Lib.hid (HU10.out.thenKeep k11)
  have hz11 := k11.size
  clear k11 HS10 HM10
  go_wp2_with ((with_reducible refine at_build (t := 34) [(0, .int .i64 2), (1, .int .i64 7), (2, .int .i64 8), (3, .int .i64 3), (4, .int .i64 3)] ?_ (.agg (fc f3)) ?_ ?_); rfl; exact HB3.out _)
  refine (ack_at f3 HS11.out (by decide) (by decide) (by decide)).mono ?_
  rintro e v12 ⟨rfl, s12, t12⟩
  rw [aw5.2]
  have HS12 := Lib.hid (show S v12 b bm bc A7 from s12)
  have HT12 := Lib.hid (HT11.out.trans (t12.mono (by simp) : Turn [b, bm, bc] v11 v12))
  have hz12 := t12.size
  have HU12 := Lib.hid (HU11.out.trans (t12.mono (by simp) : Turn [b, bm, bc] v11 v12))
  clear s12 t12 HS11
  go_wp2_with fail
  refine (tick_at HS12.out awnow.2.2.2.2.2).mono ?_
  rintro e v13 ⟨l13, rfl, o13, s13, t13⟩
  rw [aw6.2]
  have HS13 := Lib.hid (show S v13 b bm bc A7.tick from s13)
  have HT13 := Lib.hid (HT12.out.trans (t13.mono (by simp) : Turn [b, bm, bc] v12 v13))
  have hz13 := t13.size
  have HU13 := Lib.hid (HU12.out.trans (t13.mono (by simp) : Turn [b, bm, bc] v12 v13))
  have hoc := OwnF.cells (Own.turn HO9.out HU13.out (by simp; omega))
  have c3 := hoc.cell fl_len 0 _ rfl 3 (by omega) _ rfl
  have c5 := hoc.cell fl_len 0 _ rfl 5 (by omega) _ rfl
  have HDone := Lib.hid (done_at HS13.out)
  rw [aw7.2] at HDone
  have HTries := Lib.hid (fun v k => tries_at 1 (HS13.out.keep (k : Keep v13 v)))
  rw [aw7.1] at HTries
  have HTF := Lib.hid HT13.out
  simp only [Nat.zero_mul, Nat.add_zero] at c3 c5
  clear o13 s13 t13 hoc HS12
  go_wp2_with fail
  refine HDone.out.mono ?_
  rintro e v14 ⟨rfl, k14⟩
  have HTr := Lib.hid (HTries.out v14 k14)
  have HK14 := Lib.hid k14
  clear c3 c5 k14
  go_wp2_with fail
  refine HTr.out.mono ?_
  rintro e v15 ⟨rfl, rfl⟩
  go_wp2
  go_ret
  have hg := HG.out
  exact ⟨rfl, (Turn.made HK1.out HTF.out (by simp; omega)).trans HK14.out⟩
end Go.Proofs.YtcnaaoakcmdfkaaDoor
