/- Proved: what the reader's Done and NewReader of package bits answer, and what a nil reader's Code and Done do. Condition: the reader is known (Rd), or the pointer is nil. -/
import Derived.Test.YtgfbiaidbkjeiaaJ
namespace Go.Proofs.Ytgfbiaidbkjeiaa
open Go.RowKit

set_option maxRecDepth 100000 in
theorem code_nil (w : World) : Calls Try.prog 20 #[.pointer none] w fun e w' => e = .returned (.int .u64 0) ∧ w = w' := by
  have HB := Lib.hid (bits_nil 1 w)
  have HE := Lib.hid (err_nil w)
  go_enter Try.func20, Try.ntmps20
  go_wp2_with fail
  go_loopw [5] (fun cv wr => cv = .int .i64 0 ∧ w = wr) (fun cv _ => 64 - (intOf cv).toNat)
  case atStart => exact ⟨rfl, rfl⟩
  case round =>
    obtain ⟨rfl, rfl⟩ := hrel
    go_wp2_with fail
    refine HB.out.mono ?_
    rintro e w ⟨rfl, rfl⟩
    go_wp2_with fail
    refine HE.out.mono ?_
    rintro e w ⟨rfl, rfl⟩
    go_wp2
    go_ret
    exact ⟨rfl, rfl⟩
theorem done_nil (w : World) : Calls Try.prog 21 #[.pointer none] w fun e w' => e = .returned (.int .i64 10) ∧ w' = w := by
  have HE := Lib.hid (err_nil w)
  go_enter Try.func21, Try.ntmps21
  go_wp2_with fail
  refine HE.out.mono ?_
  rintro e w ⟨rfl, rfl⟩
  go_wp2
  go_ret
  exact ⟨rfl, rfl⟩
theorem new_at (s : List UInt8) (hs : s.length ≤ 1000000000000) (w : World) : Calls Try.prog 17 #[.string ⟨s.toArray⟩] w fun e w' => e = .returned (.pointer (some ⟨w.heap.size, 0, none⟩)) ∧ Rd w' w.heap.size (ofL s) 0 ∧ Same w w' := by
  have H := Lib.hid (show Rd (w.alloc (.cells (rc s 0 0) 63)) w.heap.size (ofL s) 0 from ⟨s, 0, ⟨heap_alloc_last w _, by omega, hs⟩, fun _ => by simp⟩)
  unfold rc at H
  clear hs
  go_enter Try.func17, Try.ntmps17
  go_wp2
  go_ret
  exact ⟨rfl, H.out, (Same.refl w).alloc _⟩
theorem done_err (b : Nat) (l : List Bool) (x : Int) (w : World) (h : Rd w b l x) (hx : x ≠ 0) : Calls Try.prog 21 #[.pointer (some ⟨b, 0, none⟩)] w fun e w' => e = .returned (.int .i64 x) ∧ Same w w' := by
  have HE := Lib.hid (err_at b l x w h)
  clear h
  go_enter Try.func21, Try.ntmps21
  go_wp2_with fail
  refine HE.out.mono ?_
  rintro e w ⟨rfl, rfl⟩
  go_wp2
  go_ret
  exact ⟨rfl, Same.refl _⟩
theorem bits_all (l : List Bool) (h : l.length < 8) : bitsF l 0 l.length = (valL l, [], 0) := by
  unfold bitsF
  rw [if_neg (by simp), if_neg (by omega), if_neg (by omega), Int.toNat_natCast, List.take_length, List.drop_length]
set_option maxRecDepth 100000 in
set_option maxHeartbeats 400000 in
theorem done_ok (b : Nat) (l : List Bool) (w : World) (h : Rd w b l 0) : Calls Try.prog 21 #[.pointer (some ⟨b, 0, none⟩)] w fun e w' => e = .returned (.int .i64 (doneF l 0)) ∧ Same w w' := by
  have HE := Lib.hid (err_at b l 0 w h)
  have HL := Lib.hid (left_at b l w h)
  obtain ⟨s, k, h1, h2⟩ := h
  have HP := Lib.hid h1
  have HB := Lib.hid (fun g w' (hq : RdP w' g s k 0) => bits_at g l.length l 0 w' ⟨s, k, hq, h2⟩)
  have hll : l.length ≤ 8000000000000 := by rw [← h2 rfl, List.length_drop, ofL_len]; have := h1.len; omega
  have hle := h1.le
  have hln := h1.len
  clear h1
  have HD := Lib.hid (show doneF l 0 = if 8 ≤ l.length ∨ valL l ≠ 0 then 4 else 0 by unfold doneF; rw [if_neg (by simp)])
  go_enter Try.func21, Try.ntmps21
  go_wp2_with fail
  refine HE.out.mono ?_
  rintro e w ⟨rfl, rfl⟩
  go_wp2_with fail
  refine HL.out.mono ?_
  rintro e w1 ⟨rfl, hq⟩
  have HP1 := HP.out.same hq
  have c0 := HP1.c0
  have c1 := HP1.c1
  have c2 := HP1.c2
  have HQ := Lib.hid hq
  clear HP1 hq HE HL HP
  by_cases h8 : 8 ≤ l.length
  · go_wp2
    go_ret
    refine ⟨?_, HQ.out.alloc _⟩
    rw [HD.out, if_pos (.inl h8)]
    rfl
  · have HBg := Lib.hid (HB.out w1.heap.size (w1.alloc (.cells (rc s k 0) 63)) ⟨heap_alloc_last w1 _, hle, hln⟩)
    rw [bits_all l (by omega)] at HBg
    unfold rc at HBg
    clear HB
    have h8i : ¬ (8 : Int) ≤ (l.length : Int) := by omega
    go_wp2_with fail
    refine HBg.out.mono ?_
    rintro e w2 ⟨rfl, _, ho⟩
    have HS2 := Lib.hid ((HQ.out.alloc (.cells #[.string ⟨s.toArray⟩, .int .i64 k, .int .i64 0] 63)).only ho HQ.out.size)
    clear ho
    by_cases hv : valL l = 0
    · go_wp2
      go_ret
      refine ⟨?_, HS2.out⟩
      rw [HD.out, if_neg (by omega)]
      rfl
    · have hvi : (((valL l : Nat) : Int) != 0) = true := by simp; exact hv
      go_wp2
      go_ret
      refine ⟨?_, HS2.out⟩
      rw [HD.out, if_pos (.inr hv)]
      rfl
theorem done_at (b : Nat) (l : List Bool) (x : Int) (w : World) (h : Rd w b l x) : Calls Try.prog 21 #[.pointer (some ⟨b, 0, none⟩)] w fun e w' => e = .returned (.int .i64 (doneF l x)) ∧ Same w w' := by
  by_cases hx : x = 0
  · subst hx; exact done_ok b l w h
  · rw [show doneF l x = x by unfold doneF; rw [if_pos hx]]
    exact done_err b l x w h hx
end Go.Proofs.Ytgfbiaidbkjeiaa
