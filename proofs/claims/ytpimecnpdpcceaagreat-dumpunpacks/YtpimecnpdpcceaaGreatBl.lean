/- Proved: what the document's reader of layer 4 answers, and what becomes of memory. Condition: the reader's cells are known (Qd); it has fewer than 10^9 bits. -/
import Derived.Test.YtpimecnpdpcceaaGreatBf
namespace Go.Proofs.YtpimecnpdpcceaaGreat.Bit
open Go.RowKit

/-- A reader of the document lies in block b: l is left, x was wrong. -/
structure Qd (w : World) (b : Nat) (l : List Bool) (x : Int) : Prop where
  block : w.heap[b]? = some (.cells #[.string ⟨(strL l).toArray⟩, .int .i64 x] 152 (0, 0))
  len : l.length ≤ 1000000000
theorem Qd.c0 {w : World} {b : Nat} {l : List Bool} {x : Int} (h : Qd w b l x) : w.cell? ⟨b, 0, none⟩ = some (.string ⟨(strL l).toArray⟩) := cell_obj h.block rfl
theorem Qd.c1 {w : World} {b : Nat} {l : List Bool} {x : Int} (h : Qd w b l x) : w.cell? ⟨b, 1, none⟩ = some (.int .i64 x) := cell_obj h.block rfl
theorem Qd.free {w : World} {b : Nat} {l : List Bool} {x : Int} (h : Qd w b l x) (i : Nat) : w.frozen? ⟨b, i, none⟩ = false := by simp [World.frozen?, h.block]
theorem Qd.setErr {w : World} {b : Nat} {l : List Bool} {x : Int} (h : Qd w b l x) (y : Int) : Qd (w.setCell ⟨b, 1, none⟩ (.int .i64 y)) b l y := ⟨by rw [block_set h.block]; rfl, h.len⟩
theorem Qd.setRest {w : World} {b : Nat} {l : List Bool} {x : Int} (h : Qd w b l x) (m : List Bool) (hm : m.length ≤ 1000000000) : Qd (w.setCell ⟨b, 0, none⟩ (.string ⟨(strL m).toArray⟩)) b m x := ⟨by rw [block_set h.block]; rfl, hm⟩
theorem Qd.same {w w' : World} {b : Nat} {l : List Bool} {x : Int} (h : Qd w b l x) (q : Same w w') : Qd w' b l x := ⟨q.obj h.block, h.len⟩
theorem Qd.other {w w' : World} {b c : Nat} {l : List Bool} {x : Int} (h : Qd w b l x) (q : Only c w w') (hb : b ≠ c) : Qd w' b l x := ⟨by rw [q.block b (lt_of_block h.block) hb]; exact h.block, h.len⟩
theorem ext_take (l : List UInt8) (n : Nat) : (⟨l.toArray⟩ : ByteArray).extract 0 n = ⟨(l.take n).toArray⟩ := by
  apply ByteArray.ext; simp [ByteArray.data_extract]
theorem ext_drop (l : List UInt8) (n : Nat) : (⟨l.toArray⟩ : ByteArray).extract n l.length = ⟨(l.drop n).toArray⟩ := by
  apply ByteArray.ext; simp [ByteArray.data_extract]; rw [List.take_of_length_le (by simp)]
theorem ext_mid (l : List UInt8) (n m : Nat) : (⟨l.toArray⟩ : ByteArray).extract n m = ⟨((l.drop n).take (m - n)).toArray⟩ := by
  apply ByteArray.ext; simp [ByteArray.data_extract]
theorem strL_take (l : List Bool) (n : Nat) : (strL l).take n = strL (l.take n) := by simp [strL, List.map_take]
theorem strL_drop (l : List Bool) (n : Nat) : (strL l).drop n = strL (l.drop n) := by simp [strL, List.map_drop]
theorem cut_to (l : List Bool) (n : Nat) (hn : n ≤ l.length) (_hl : l.length ≤ 1000000000) (w : World) : (Instr.sliceAt 9 (.string ⟨(strL l).toArray⟩) none (some (.int .i64 n)) none).run Tryz.prog w = .ok (.string ⟨(strL (l.take n)).toArray⟩) w := by
  have hsl := strL_len l
  rw [← strL_take, ← ext_take]
  go_simp
theorem cut_from (l : List Bool) (n : Nat) (hn : n ≤ l.length) (_hl : l.length ≤ 1000000000) (w : World) : (Instr.sliceAt 9 (.string ⟨(strL l).toArray⟩) (some (.int .i64 n)) none none).run Tryz.prog w = .ok (.string ⟨(strL (l.drop n)).toArray⟩) w := by
  have hsl := strL_len l
  rw [← strL_drop, ← ext_drop]
  go_simp
theorem cut_mid (l : List Bool) (n m : Nat) (hn : n ≤ m) (hm : m ≤ l.length) (_hl : l.length ≤ 1000000000) (w : World) : (Instr.sliceAt 9 (.string ⟨(strL l).toArray⟩) (some (.int .i64 n)) (some (.int .i64 m)) none).run Tryz.prog w = .ok (.string ⟨(strL ((l.drop n).take (m - n))).toArray⟩) w := by
  have hsl := strL_len l
  rw [← strL_take, ← strL_drop, ← ext_mid]
  go_simp
def QdPost (b : Nat) (w : World) (v : Value) (l : List Bool) (x : Int) (e : Ending) (w' : World) : Prop := e = .returned v ∧ Qd w' b l x ∧ Only b w w'

set_option maxRecDepth 100000 in
set_option maxHeartbeats 400000 in
theorem qbits_at (b : Nat) (n : Int) (l : List Bool) (x : Int) (w : World) (h : Qd w b l x) : Calls Tryz.prog 97 #[.pointer (some ⟨b, 0, none⟩), .int .i64 n] w (QdPost b w (.int .u64 ((bitsF l x n).1 : Nat)) (bitsF l x n).2.1 (bitsF l x n).2.2) := by
  have c0 := h.c0
  have c1 := h.c1
  have fr := h.free
  have hln := h.len
  have hsl := strL_len l
  have H := Lib.hid h
  clear h
  unfold bitsF
  by_cases hx : x = 0
  · subst hx
    rw [if_neg (by simp)]
    by_cases hn : n < 0 ∨ 64 < n
    · rw [if_pos hn]
      by_cases hn0 : n < 0
      · go_enter Tryz.func97, Tryz.ntmps97
        go_wp2
        go_ret
        exact ⟨rfl, H.out.setErr 1, Only.setCell _ _ _ _⟩
      · have hn64 : 64 < n := by omega
        clear hn
        go_enter Tryz.func97, Tryz.ntmps97
        go_wp2
        go_ret
        exact ⟨rfl, H.out.setErr 1, Only.setCell _ _ _ _⟩
    · rw [if_neg hn]
      have hn0 : 0 ≤ n := by omega
      have hn64 : n ≤ 64 := by omega
      clear hn
      by_cases hs : (l.length : Int) < n
      · rw [if_pos hs]
        go_enter Tryz.func97, Tryz.ntmps97
        go_wp2
        go_ret
        exact ⟨rfl, H.out.setErr 3, Only.setCell _ _ _ _⟩
      · rw [if_neg hs]
        obtain ⟨m, rfl⟩ := Int.eq_ofNat_of_zero_le hn0
        rw [Int.toNat_natCast]
        have ct := cut_to l m (by omega) hln
        have cf := cut_from l m (by omega) hln
        have HV := Lib.hid (rvalue (l.take m) (by rw [List.length_take]; omega))
        go_enter Tryz.func97, Tryz.ntmps97
        go_wp2_with fail
        refine (HV.out _).mono ?_
        rintro e w1 ⟨rfl, hq⟩
        have H1 := Lib.hid (H.out.same hq)
        have c0 := H1.out.c0
        have fr := H1.out.free
        have HQ := Lib.hid hq
        clear hq
        go_wp2
        go_ret
        exact ⟨rfl, H1.out.setRest _ (by rw [List.length_drop]; omega), (Only.same HQ.out).trans (Only.setCell _ _ _ _)⟩
  · rw [if_pos hx]
    go_enter Tryz.func97, Tryz.ntmps97
    go_wp2
    go_ret
    exact ⟨rfl, H.out, Only.refl _ _⟩
end Go.Proofs.YtpimecnpdpcceaaGreat.Bit
