/- Proved: what isNumber, Err, Done, There and Tries of sender answer, and all of its calls of a nil one. Condition: the sender lies in memory (S), or the pointer is nil. -/
import Derived.Test.YtcnaaoakcmdfkaaDoorSa
namespace Go.Proofs.YtcnaaoakcmdfkaaDoor
open Go.RowKit

def numB (n : Int) : Bool := decide (0 ≤ n) && decide (n < 4294967296)
set_option maxRecDepth 100000 in
theorem isnum_at (n : Int) (w : World) : Calls Tryd.prog 29 #[.int .i64 n] w fun e w' => e = .returned (.bool (numB n)) ∧ w' = w := by
  unfold numB
  by_cases h0 : 0 ≤ n
  · have e1 : decide (n ≥ 0) = true := decide_eq_true h0
    rw [show decide (0 ≤ n) = true from e1, Bool.true_and]
    go_enter Tryd.func29, Tryd.ntmps29
    go_wp2
    go_ret
    exact ⟨rfl, rfl⟩
  · have e1 : decide (n ≥ 0) = false := decide_eq_false h0
    rw [show decide (0 ≤ n) = false from e1, Bool.false_and]
    go_enter Tryd.func29, Tryd.ntmps29
    go_wp2
    go_ret
    exact ⟨rfl, rfl⟩
set_option maxRecDepth 100000 in
theorem err_nil (w : World) : Calls Tryd.prog 19 #[.pointer none] w fun e w' => e = .returned (.int .i64 10) ∧ w' = w := by
  go_enter Tryd.func19, Tryd.ntmps19
  go_wp2
  go_ret
  exact ⟨rfl, rfl⟩
set_option maxRecDepth 100000 in
theorem done_nil (w : World) : Calls Tryd.prog 21 #[.pointer none] w fun e w' => e = .returned (.bool false) ∧ w' = w := by
  go_enter Tryd.func21, Tryd.ntmps21
  go_wp2
  go_ret
  exact ⟨rfl, rfl⟩
set_option maxRecDepth 100000 in
theorem there_nil (w : World) : Calls Tryd.prog 23 #[.pointer none] w fun e w' => e = .returned (.pointer none) ∧ w' = w := by
  go_enter Tryd.func23, Tryd.ntmps23
  go_wp2
  go_ret
  exact ⟨rfl, rfl⟩
set_option maxRecDepth 100000 in
theorem tries_nil (i : Int) (w : World) : Calls Tryd.prog 26 #[.pointer none, .int .i64 i] w fun e w' => e = .returned (.int .i64 0) ∧ w' = w := by
  go_enter Tryd.func26, Tryd.ntmps26
  go_wp2
  go_ret
  exact ⟨rfl, rfl⟩
set_option maxRecDepth 100000 in
theorem tick_nil (w : World) : Calls Tryd.prog 14 #[.pointer none] w fun e w' => e = .returned (.tuple #[.slice none 0 0, .int .i64 10]) ∧ w' = w := by
  go_enter Tryd.func14, Tryd.ntmps14
  go_wp2
  go_ret2
  exact ⟨rfl, rfl⟩
set_option maxRecDepth 100000 in
theorem ack_nil (f : Fr) (w : World) : Calls Tryd.prog 17 #[.pointer none, .agg (fc f)] w fun e w' => e = .returned (.int .i64 10) ∧ Keep w w' := by
  have HK := Lib.hid ((Keep.refl w).alloc (.cells (fc f) 34))
  generalize fc f = C at *
  go_enter Tryd.func17, Tryd.ntmps17
  go_wp2
  go_ret
  exact ⟨rfl, HK.out⟩

section
variable {b bm bc : Nat} {s : Sd} {w : World}
set_option maxRecDepth 100000 in
theorem err_at (h : S w b bm bc s) : Calls Tryd.prog 19 #[.pointer (some ⟨b, 0, none⟩)] w fun e w' => e = .returned (.int .i64 (s.err : Nat)) ∧ Keep w w' := by
  have c5 := h.lost
  have c0 := h.ptr
  have HF := Lib.hid (full_at bm s.l w h.map)
  rw [show decide (baseN s.l = s.l.length) = decide s.full from rfl] at HF
  unfold Sd.err
  clear h
  generalize s.lost = L at *
  cases L
  · by_cases hf : s.full
    · rw [decide_eq_true hf] at HF
      rw [if_neg (by simp), if_pos hf]
      clear hf
      go_enter Tryd.func19, Tryd.ntmps19
      go_wp2_with fail
      refine HF.out.mono ?_
      rintro e w1 ⟨rfl, k1⟩
      clear c5 c0
      go_wp2
      go_ret
      exact ⟨rfl, k1⟩
    · rw [decide_eq_false hf] at HF
      rw [if_neg (by simp), if_neg hf]
      clear hf
      go_enter Tryd.func19, Tryd.ntmps19
      go_wp2_with fail
      refine HF.out.mono ?_
      rintro e w1 ⟨rfl, k1⟩
      clear c5 c0
      go_wp2
      go_ret
      exact ⟨rfl, k1⟩
  · rw [if_pos rfl]
    go_enter Tryd.func19, Tryd.ntmps19
    go_wp2
    go_ret
    exact ⟨rfl, Keep.refl _⟩
set_option maxRecDepth 100000 in
theorem done_at (h : S w b bm bc s) : Calls Tryd.prog 21 #[.pointer (some ⟨b, 0, none⟩)] w fun e w' => e = .returned (.bool (decide s.full)) ∧ Keep w w' := by
  have c0 := h.ptr
  have HF := Lib.hid (full_at bm s.l w h.map)
  rw [show decide (baseN s.l = s.l.length) = decide s.full from rfl] at HF
  clear h
  generalize decide s.full = B at *
  go_enter Tryd.func21, Tryd.ntmps21
  go_wp2_with fail
  refine HF.out.mono ?_
  rintro e w1 ⟨rfl, k1⟩
  clear c0
  go_wp2
  go_ret
  exact ⟨rfl, k1⟩
set_option maxRecDepth 100000 in
theorem there_at (h : S w b bm bc s) : Calls Tryd.prog 23 #[.pointer (some ⟨b, 0, none⟩)] w fun e w' => ∃ c, e = .returned (.pointer (some ⟨c, 0, none⟩)) ∧ w.heap.size ≤ c ∧ M w' c s.l ∧ Keep w w' := by
  have c0 := h.ptr
  have HF := Lib.hid (copy_at bm s.l w h.map)
  clear h
  go_enter Tryd.func23, Tryd.ntmps23
  go_wp2_with fail
  refine HF.out.mono ?_
  rintro e w1 ⟨c, rfl, hc, m1, k1⟩
  clear c0
  go_wp2
  go_ret
  exact ⟨c, rfl, hc, m1, k1⟩
set_option maxRecDepth 100000 in
theorem tries_at (i : Int) (h : S w b bm bc s) : Calls Tryd.prog 26 #[.pointer (some ⟨b, 0, none⟩), .int .i64 i] w fun e w' => e = .returned (.int .i64 (s.tries i : Nat)) ∧ w' = w := by
  have c3 := h.list
  unfold Sd.tries
  by_cases h0 : 0 ≤ i
  · obtain ⟨k, rfl⟩ := Int.eq_ofNat_of_zero_le h0
    rw [if_pos h0, Int.toNat_natCast]
    by_cases hk : k < s.ch.length
    · have c4 := h.tries k hk
      clear h
      generalize s.ch.length = N at *
      generalize (s.at k).tries = t at *
      go_enter Tryd.func26, Tryd.ntmps26
      go_wp2
      go_ret
      exact ⟨rfl, rfl⟩
    · have e0 : (s.at k).tries = 0 := by rw [at_out (by omega)]; rfl
      rw [e0]
      clear h
      generalize s.ch.length = N at *
      go_enter Tryd.func26, Tryd.ntmps26
      go_wp2
      go_ret
      exact ⟨rfl, rfl⟩
  · rw [if_neg h0]
    clear h
    generalize s.ch.length = N at *
    go_enter Tryd.func26, Tryd.ntmps26
    go_wp2
    go_ret
    exact ⟨rfl, rfl⟩
end
end Go.Proofs.YtcnaaoakcmdfkaaDoor
