/- Proved: what the reader's calls Err, Left, Raw and Byte of package varint answer, and what becomes of memory. Condition: the reader's two cells are known (Rd), or the pointer is nil. -/
import Derived.Test.YtifcibmpeolmdaaDoorA2
import Derived.Test.YtifcibmpeolmdaaDoorVv
import Derived.WalkKit
import Derived.Lib.Hide
import Derived.WalkSpells
import Derived.WalkLawsBesides
namespace Go.Proofs.YtifcibmpeolmdaaDoor
open Go.RowKit

theorem ext_take (l : List UInt8) (n : Nat) : (⟨l.toArray⟩ : ByteArray).extract 0 n = ⟨(l.take n).toArray⟩ := by
  apply ByteArray.ext; simp [ByteArray.data_extract]
theorem ext_drop (l : List UInt8) (n : Nat) : (⟨l.toArray⟩ : ByteArray).extract n l.length = ⟨(l.drop n).toArray⟩ := by
  apply ByteArray.ext; simp [ByteArray.data_extract]; rw [List.take_of_length_le (by simp)]


theorem Only.below {b : Nat} {u v w : World} {B : Nat} (h : Below B u v) (k : Only b v w) (hb : B ≤ b) (hB : B ≤ v.heap.size) : Below B u w :=
  h.trans ⟨k.os, k.tape, k.output, k.size, fun i hi => k.block i (by omega) (by omega)⟩
theorem Only.cell {b : Nat} {w w' : World} (h : Only b w w') {p : Addr} (hp : p.block < w.heap.size) (hb : p.block ≠ b) : w'.cell? p = w.cell? p := World.cell?_of_block (w := w) (h.block p.block hp hb)
theorem Only.frozen {b : Nat} {w w' : World} (h : Only b w w') {p : Addr} (hp : p.block < w.heap.size) (hb : p.block ≠ b) : w'.frozen? p = w.frozen? p := World.frozen?_of_block (w := w) (h.block p.block hp hb)

/-- A reader lies in block b: l is left, x was wrong. -/
structure Rd (w : World) (b : Nat) (l : List UInt8) (x : Int) : Prop where
  rest : w.cell? ⟨b, 0, none⟩ = some (.string ⟨l.toArray⟩)
  err : w.cell? ⟨b, 1, none⟩ = some (.int .i64 x)
  free0 : w.frozen? ⟨b, 0, none⟩ = false
  free1 : w.frozen? ⟨b, 1, none⟩ = false
  len : l.length ≤ maxLen

theorem Rd.other {w w' : World} {b c : Nat} {l : List UInt8} {x : Int} (h : Rd w b l x) (k : Only c w w') (hb : b ≠ c) (hs : b < w.heap.size) : Rd w' b l x :=
  ⟨(k.cell hs hb).trans h.rest, (k.cell hs hb).trans h.err, (k.frozen hs hb).trans h.free0, (k.frozen hs hb).trans h.free1, h.len⟩
theorem Rd.setErr {w : World} {b : Nat} {l : List UInt8} {x : Int} (h : Rd w b l x) (y : Int) : Rd (w.setCell ⟨b, 1, none⟩ (.int .i64 y)) b l y := by
  have h0 := h.rest; have h1 := h.err; have f0 := h.free0; have f1 := h.free1
  exact ⟨by go_simp, by go_simp, by go_simp, by go_simp, h.len⟩
theorem Rd.setRest {w : World} {b : Nat} {l : List UInt8} {x : Int} (h : Rd w b l x) (m : List UInt8) (hm : m.length ≤ maxLen) : Rd (w.setCell ⟨b, 0, none⟩ (.string ⟨m.toArray⟩)) b m x := by
  have h0 := h.rest; have h1 := h.err; have f0 := h.free0; have f1 := h.free1
  exact ⟨by go_simp, by go_simp, by go_simp, by go_simp, hm⟩
theorem Rd.lt {w : World} {b : Nat} {l : List UInt8} {x : Int} (h : Rd w b l x) : b < w.heap.size := by
  have h0 := h.rest
  by_cases hb : b < w.heap.size
  · exact hb
  · have : w.heap[b]? = none := by simp; omega
    simp [World.cell?, this] at h0

set_option maxHeartbeats 400000 in
theorem err_nil (w : World) : Calls Tryd.prog 53 #[.pointer none] w fun e w' => e = .returned (.int .i64 10) ∧ w = w' := by
  go_enter Tryd.func53, Tryd.ntmps53
  go_wp2
  go_ret
  exact ⟨rfl, rfl⟩

set_option maxHeartbeats 400000 in
theorem err_at (b : Nat) (x : Int) (w : World) (h : w.cell? ⟨b, 1, none⟩ = some (.int .i64 x)) : Calls Tryd.prog 53 #[.pointer (some ⟨b, 0, none⟩)] w fun e w' => e = .returned (.int .i64 x) ∧ w = w' := by
  go_enter Tryd.func53, Tryd.ntmps53
  go_wp2
  go_ret
  exact ⟨rfl, rfl⟩

set_option maxHeartbeats 400000 in
theorem left_nil (w : World) : Calls Tryd.prog 79 #[.pointer none] w fun e w' => e = .returned (.int .i64 0) ∧ w = w' := by
  go_enter Tryd.func79, Tryd.ntmps79
  go_wp2
  go_ret
  exact ⟨rfl, rfl⟩

set_option maxHeartbeats 400000 in
theorem left_at (b : Nat) (s : ByteArray) (w : World) (h : w.cell? ⟨b, 0, none⟩ = some (.string s)) : Calls Tryd.prog 79 #[.pointer (some ⟨b, 0, none⟩)] w fun e w' => e = .returned (.int .i64 s.size) ∧ w = w' := by
  go_enter Tryd.func79, Tryd.ntmps79
  go_wp2
  go_ret
  exact ⟨rfl, rfl⟩

set_option maxHeartbeats 400000 in
theorem raw_nil (n : Int) (w : World) : Calls Tryd.prog 78 #[.pointer none, .int .i64 n] w fun e w' => e = .returned (.string ⟨#[]⟩) ∧ w = w' := by
  go_enter Tryd.func78, Tryd.ntmps78
  go_wp2
  go_ret
  exact ⟨rfl, rfl⟩

set_option maxHeartbeats 400000 in
theorem raw_err (b : Nat) (n x : Int) (w : World) (h1 : w.cell? ⟨b, 1, none⟩ = some (.int .i64 x)) (hx : (x != 0) = true) : Calls Tryd.prog 78 #[.pointer (some ⟨b, 0, none⟩), .int .i64 n] w fun e w' => e = .returned (.string ⟨#[]⟩) ∧ w = w' := by
  go_enter Tryd.func78, Tryd.ntmps78
  go_wp2
  go_ret
  exact ⟨rfl, rfl⟩

set_option maxHeartbeats 400000 in
theorem raw_arg (b : Nat) (n : Int) (w : World) (h1 : w.cell? ⟨b, 1, none⟩ = some (.int .i64 0)) (f1 : w.frozen? ⟨b, 1, none⟩ = false) (hn : n < 0) : Calls Tryd.prog 78 #[.pointer (some ⟨b, 0, none⟩), .int .i64 n] w fun e w' => e = .returned (.string ⟨#[]⟩) ∧ w.setCell ⟨b, 1, none⟩ (.int .i64 1) = w' := by
  go_enter Tryd.func78, Tryd.ntmps78
  go_wp2
  go_ret
  exact ⟨rfl, rfl⟩

set_option maxHeartbeats 400000 in
theorem raw_short (b : Nat) (n : Int) (l : List UInt8) (w : World) (h0 : w.cell? ⟨b, 0, none⟩ = some (.string ⟨l.toArray⟩)) (h1 : w.cell? ⟨b, 1, none⟩ = some (.int .i64 0)) (f1 : w.frozen? ⟨b, 1, none⟩ = false) (hn : 0 ≤ n) (hl : (l.length : Int) < n) : Calls Tryd.prog 78 #[.pointer (some ⟨b, 0, none⟩), .int .i64 n] w fun e w' => e = .returned (.string ⟨#[]⟩) ∧ w.setCell ⟨b, 1, none⟩ (.int .i64 3) = w' := by
  go_enter Tryd.func78, Tryd.ntmps78
  go_wp2
  go_ret
  exact ⟨rfl, rfl⟩


set_option maxHeartbeats 400000 in
theorem raw_ok (b : Nat) (n : Int) (l : List UInt8) (w : World) (h0 : w.cell? ⟨b, 0, none⟩ = some (.string ⟨l.toArray⟩)) (h1 : w.cell? ⟨b, 1, none⟩ = some (.int .i64 0)) (f0 : w.frozen? ⟨b, 0, none⟩ = false) (hn : 0 ≤ n) (hl : n ≤ (l.length : Int)) (_hm : l.length ≤ maxLen) : Calls Tryd.prog 78 #[.pointer (some ⟨b, 0, none⟩), .int .i64 n] w fun e w' => e = .returned (.string ⟨(l.take n.toNat).toArray⟩) ∧ w.setCell ⟨b, 0, none⟩ (.string ⟨(l.drop n.toNat).toArray⟩) = w' := by
  obtain ⟨n, rfl⟩ := Int.eq_ofNat_of_zero_le hn
  have hl2 : n ≤ l.length := by omega
  unfold maxLen at _hm
  rw [Int.toNat_natCast]
  go_enter Tryd.func78, Tryd.ntmps78
  go_wp2
  go_ret
  exact ⟨congrArg (fun s => Ending.returned (.string s)) (ext_take l n), by rw [ext_drop]⟩

def RdPost (b : Nat) (w : World) (v : Value) (l : List UInt8) (x : Int) (e : Ending) (w' : World) : Prop := e = .returned v ∧ Rd w' b l x ∧ Only b w w'

theorem raw_at (b : Nat) (n : Int) (l : List UInt8) (x : Int) (w : World) (h : Rd w b l x) : Calls Tryd.prog 78 #[.pointer (some ⟨b, 0, none⟩), .int .i64 n] w (RdPost b w (.string ⟨(V.rawF l x n).1.toArray⟩) (V.rawF l x n).2.1 (V.rawF l x n).2.2) := by
  unfold V.rawF
  by_cases hx : x = 0
  · subst hx
    rw [if_neg (by simp)]
    by_cases hn : n < 0
    · rw [if_pos hn]
      refine (raw_arg b n w h.err h.free1 hn).mono ?_
      rintro e w' ⟨rfl, rfl⟩
      exact ⟨rfl, h.setErr 1, Only.setCell _ _ _ _⟩
    · rw [if_neg hn]
      by_cases hl : (l.length : Int) < n
      · rw [if_pos hl]
        refine (raw_short b n l w h.rest h.err h.free1 (by omega) hl).mono ?_
        rintro e w' ⟨rfl, rfl⟩
        exact ⟨rfl, h.setErr 3, Only.setCell _ _ _ _⟩
      · rw [if_neg hl]
        refine (raw_ok b n l w h.rest h.err h.free0 (by omega) (by omega) h.len).mono ?_
        rintro e w' ⟨rfl, rfl⟩
        exact ⟨rfl, h.setRest _ (by have := h.len; simp; omega), Only.setCell _ _ _ _⟩
  · rw [if_pos hx]
    refine (raw_err b n x w h.err (by simpa using hx)).mono ?_
    rintro e w' ⟨rfl, rfl⟩
    exact ⟨rfl, h, Only.refl _ _⟩

set_option maxHeartbeats 400000 in
theorem byte_nil (w : World) : Calls Tryd.prog 68 #[.pointer none] w fun e w' => e = .returned (.int .u8 0) ∧ w = w' := by
  go_enter Tryd.func68, Tryd.ntmps68
  go_wp2
  go_ret
  exact ⟨rfl, rfl⟩

set_option maxHeartbeats 400000 in
theorem byte_at (b : Nat) (l : List UInt8) (x : Int) (w : World) (h : Rd w b l x) : Calls Tryd.prog 68 #[.pointer (some ⟨b, 0, none⟩)] w (RdPost b w (.int .u8 (V.byteF l x).1.toNat) (V.byteF l x).2.1 (V.byteF l x).2.2) := by
  have hz := V.byteF_zero l x
  have hr := V.byte_raw l x
  generalize V.byteF l x = q at *
  obtain ⟨c, m, y⟩ := q
  by_cases hy : y = 0
  · subst hy
    simp only [if_true] at hr
    have Hr := Lib.hid hr
    clear hr hz
    go_enter Tryd.func68, Tryd.ntmps68
    go_wp2_with fail
    refine (raw_at b 1 l x w h).mono ?_
    rintro e w' ⟨rfl, hr', ho⟩
    rw [Hr.out] at hr' ⊢
    go_wp2
    go_ret
    exact ⟨rfl, hr', ho⟩
  · have Hz : c = 0 := hz hy
    subst Hz
    simp only [if_neg hy] at hr
    have Hr := Lib.hid hr
    clear hr hz
    go_enter Tryd.func68, Tryd.ntmps68
    go_wp2_with fail
    refine (raw_at b 1 l x w h).mono ?_
    rintro e w' ⟨rfl, hr', ho⟩
    rw [Hr.out] at hr' ⊢
    go_wp2
    go_ret
    exact ⟨rfl, hr', ho⟩
end Go.Proofs.YtifcibmpeolmdaaDoor
