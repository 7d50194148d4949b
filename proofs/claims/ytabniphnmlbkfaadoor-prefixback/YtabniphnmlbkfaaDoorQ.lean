/- Proved: NewReader makes a reader in new memory; what the document's own reader (package signpostref01) answers, and what becomes of memory. Condition: a text's length fits; the reader's two cells are known (Rd). -/
import Derived.Test.YtabniphnmlbkfaaDoorA
import Derived.Test.YtabniphnmlbkfaaDoorG
import Derived.Handy
namespace Go.Proofs.YtabniphnmlbkfaaDoor
open Go.RowKit

def NewRd (w : World) (l : List UInt8) : World := w.alloc (.cells #[.string ⟨l.toArray⟩, .int .i64 0] 63)
theorem NewRd.rd (w : World) (l : List UInt8) (hl : l.length ≤ maxLen) : Rd (NewRd w l) w.heap.size l 0 := by
  unfold NewRd
  exact ⟨by go_simp, by go_simp, by go_simp, by go_simp, hl⟩
theorem NewRd.below (w : World) (l : List UInt8) : Below w.heap.size w (NewRd w l) := (Below.refl _ _).alloc (Nat.le_refl _) _
theorem NewRd.size (w : World) (l : List UInt8) : (NewRd w l).heap.size = w.heap.size + 1 := by unfold NewRd; simp

set_option maxHeartbeats 400000 in
theorem newreader_at (l : List UInt8) (w : World) : Calls Tryd.prog 23 #[.string ⟨l.toArray⟩] w fun e w' => e = .returned (.pointer (some ⟨w.heap.size, 0, none⟩)) ∧ NewRd w l = w' := by
  go_enter Tryd.func23, Tryd.ntmps23
  go_wp2
  go_ret
  exact ⟨rfl, rfl⟩

def ReaderPost (w : World) (l : List UInt8) (e : Ending) (w' : World) : Prop := ∃ b, e = .returned (.pointer (some ⟨b, 0, none⟩)) ∧ b = w.heap.size ∧ Rd w' b l 0 ∧ Below w.heap.size w w'
theorem newreader (l : List UInt8) (w : World) (hl : l.length ≤ maxLen) : Calls Tryd.prog 23 #[.string ⟨l.toArray⟩] w (ReaderPost w l) := by
  refine (newreader_at l w).mono ?_
  rintro e w' ⟨rfl, rfl⟩
  exact ⟨w.heap.size, rfl, rfl, NewRd.rd w l hl, NewRd.below w l⟩

theorem Rd.below {w w' : World} {b : Nat} {l : List UInt8} {x : Int} (h : Rd w b l x) (k : Below w.heap.size w w') : Rd w' b l x :=
  ⟨(k.cell h.lt).trans h.rest, (k.cell h.lt).trans h.err, (k.frozen h.lt).trans h.free0, (k.frozen h.lt).trans h.free1, h.len⟩

theorem bOnly {N : Nat} {u v w : World} {b : Nat} (h : Below N u v) (k : Only b v w) (hb : N ≤ b) (hN : N ≤ u.heap.size) : Below N u w := Only.below h k hb (Nat.le_trans hN h.size)
theorem bMore {N : Nat} {u v w : World} (h : Below N u v) (k : Below v.heap.size v w) (hN : N ≤ u.heap.size) : Below N u w := h.trans (k.mono (Nat.le_trans hN h.size))

theorem err_rd (b : Nat) (l : List UInt8) (x : Int) (w : World) (h : Rd w b l x) : Calls Tryd.prog 42 #[.pointer (some ⟨b, 0, none⟩)] w fun e w' => e = .returned (.int .i64 x) ∧ w = w' := err_at b x w h.err

set_option maxHeartbeats 400000 in
theorem fail_at (b : Nat) (y : Int) (w : World) (h1 : w.cell? ⟨b, 1, none⟩ = some (.int .i64 0)) (f1 : w.frozen? ⟨b, 1, none⟩ = false) : Calls Tryd.prog 53 #[.pointer (some ⟨b, 0, none⟩), .int .i64 y] w fun e w' => e = .returned (.tuple #[]) ∧ w.setCell ⟨b, 1, none⟩ (.int .i64 y) = w' := by
  go_enter Tryd.func53, Tryd.ntmps53
  go_wp2
  go_returns
  exact ⟨rfl, rfl⟩

set_option maxHeartbeats 400000 in
theorem qraw_at (b : Nat) (n : Int) (l : List UInt8) (x : Int) (w : World) (h : Rd w b l x) : Calls Tryd.prog 44 #[.pointer (some ⟨b, 0, none⟩), .int .i64 n] w (RdPost b w (.string ⟨(V.rawF l x n).1.toArray⟩) (V.rawF l x n).2.1 (V.rawF l x n).2.2) := by
  have h0 := h.rest
  have h1 := h.err
  have f0 := h.free0
  have f1 := h.free1
  have hm := h.len
  unfold maxLen at hm
  unfold V.rawF
  by_cases hx : x = 0
  · subst hx
    rw [if_neg (by simp)]
    by_cases hn : n < 0
    · rw [if_pos hn]
      go_enter Tryd.func44, Tryd.ntmps44
      go_wp2_with fail
      refine (fail_at b 1 w h1 f1).mono ?_
      rintro e w' ⟨rfl, rfl⟩
      go_wp2
      go_ret
      exact ⟨rfl, h.setErr 1, Only.setCell _ _ _ _⟩
    · rw [if_neg hn]
      obtain ⟨n, rfl⟩ := Int.eq_ofNat_of_zero_le (show 0 ≤ n by omega)
      rw [Int.toNat_natCast]
      by_cases hl : (l.length : Int) < (n : Int)
      · rw [if_pos hl]
        have hl2 : l.length < n := by omega
        go_enter Tryd.func44, Tryd.ntmps44
        go_wp2_with fail
        refine (fail_at b 3 w h1 f1).mono ?_
        rintro e w' ⟨rfl, rfl⟩
        go_wp2
        go_ret
        exact ⟨rfl, h.setErr 3, Only.setCell _ _ _ _⟩
      · rw [if_neg hl]
        have hl2 : n ≤ l.length := by omega
        go_enter Tryd.func44, Tryd.ntmps44
        go_wp2
        go_ret
        refine ⟨congrArg (fun s => Ending.returned (.string s)) (ext_take l n), ?_, ?_⟩
        · rw [ext_drop]; exact h.setRest _ (by have := h.len; simp; omega)
        · exact Only.setCell _ _ _ _
  · rw [if_pos hx]
    have hx' : (x != 0) = true := by simpa using hx
    clear hx
    go_enter Tryd.func44, Tryd.ntmps44
    go_wp2
    go_ret
    exact ⟨rfl, h, Only.refl _ _⟩

set_option maxHeartbeats 400000 in
theorem qbyte_at (b : Nat) (l : List UInt8) (x : Int) (w : World) (h : Rd w b l x) : Calls Tryd.prog 43 #[.pointer (some ⟨b, 0, none⟩)] w (RdPost b w (.int .u8 (V.byteF l x).1.toNat) (V.byteF l x).2.1 (V.byteF l x).2.2) := by
  have hz := V.byteF_zero l x
  have hr := V.byte_raw l x
  generalize V.byteF l x = q at *
  obtain ⟨c, m, y⟩ := q
  by_cases hy : y = 0
  · subst hy
    simp only [if_true] at hr
    have Hr := Lib.hid hr
    clear hr hz
    go_enter Tryd.func43, Tryd.ntmps43
    go_wp2_with fail
    refine (qraw_at b 1 l x w h).mono ?_
    rintro e w' ⟨rfl, hr', ho⟩
    rw [Hr.out] at hr' ⊢
    go_wp2
    go_ret
    exact ⟨rfl, hr', ho⟩
  · have Hz : c = 0 := hz hy
    subst Hz
    simp only [if_neg hy] at hr
    have Hr := Lib.hid hr
    clear hr hz
    go_enter Tryd.func43, Tryd.ntmps43
    go_wp2_with fail
    refine (qraw_at b 1 l x w h).mono ?_
    rintro e w' ⟨rfl, hr', ho⟩
    rw [Hr.out] at hr' ⊢
    go_wp2
    go_ret
    exact ⟨rfl, hr', ho⟩
end Go.Proofs.YtabniphnmlbkfaaDoor
