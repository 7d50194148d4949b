/- Proved: what the reader's calls Err, Left, Bits and Code of package bits answer, and what becomes of memory. Condition: the reader's cells are known (Rd), or the pointer is nil; numbers fit. -/
import Derived.Test.YtgfbiaidbkjeiaaH
namespace Go.Proofs.Ytgfbiaidbkjeiaa
open Go.RowKit

/-- A reader's cells. -/
def rc (s : List UInt8) (k : Nat) (x : Int) : Array Value := #[.string ⟨s.toArray⟩, .int .i64 k, .int .i64 x]
/-- A reader lies in block b: k bits of s are taken, x was wrong. -/
structure RdP (w : World) (b : Nat) (s : List UInt8) (k : Nat) (x : Int) : Prop where
  block : w.heap[b]? = some (.cells (rc s k x) 63 (0, 0))
  le : k ≤ 8 * s.length
  len : s.length ≤ 1000000000000
/-- A reader lies in block b: l is left, x was wrong. -/
def Rd (w : World) (b : Nat) (l : List Bool) (x : Int) : Prop := ∃ s k, RdP w b s k x ∧ (x = 0 → (ofL s).drop k = l)
theorem RdP.c0 {w : World} {b : Nat} {s : List UInt8} {k : Nat} {x : Int} (h : RdP w b s k x) : w.cell? ⟨b, 0, none⟩ = some (.string ⟨s.toArray⟩) := cell_obj h.block rfl
theorem RdP.c1 {w : World} {b : Nat} {s : List UInt8} {k : Nat} {x : Int} (h : RdP w b s k x) : w.cell? ⟨b, 1, none⟩ = some (.int .i64 k) := cell_obj h.block rfl
theorem RdP.c2 {w : World} {b : Nat} {s : List UInt8} {k : Nat} {x : Int} (h : RdP w b s k x) : w.cell? ⟨b, 2, none⟩ = some (.int .i64 x) := cell_obj h.block rfl
theorem RdP.free {w : World} {b : Nat} {s : List UInt8} {k : Nat} {x : Int} (h : RdP w b s k x) (i : Nat) : w.frozen? ⟨b, i, none⟩ = false := by simp [World.frozen?, h.block]
theorem RdP.setErr {w : World} {b : Nat} {s : List UInt8} {k : Nat} {x : Int} (h : RdP w b s k x) (y : Int) : RdP (w.setCell ⟨b, 2, none⟩ (.int .i64 y)) b s k y := ⟨by rw [block_set h.block]; rfl, h.le, h.len⟩
theorem RdP.setAt {w : World} {b : Nat} {s : List UInt8} {k : Nat} {x : Int} (h : RdP w b s k x) (m : Nat) (hm : m ≤ 8 * s.length) : RdP (w.setCell ⟨b, 1, none⟩ (.int .i64 m)) b s m x := ⟨by rw [block_set h.block]; rfl, hm, h.len⟩
theorem RdP.same {w w' : World} {b : Nat} {s : List UInt8} {k : Nat} {x : Int} (h : RdP w b s k x) (q : Same w w') : RdP w' b s k x := ⟨q.obj h.block, h.le, h.len⟩
theorem RdP.other {w w' : World} {b c : Nat} {s : List UInt8} {k : Nat} {x : Int} (h : RdP w b s k x) (q : Only c w w') (hb : b ≠ c) : RdP w' b s k x := ⟨by rw [q.block b (lt_of_block h.block) hb]; exact h.block, h.le, h.len⟩
theorem Rd.same {w w' : World} {b : Nat} {l : List Bool} {x : Int} (h : Rd w b l x) (q : Same w w') : Rd w' b l x := by
  obtain ⟨s, k, h1, h2⟩ := h; exact ⟨s, k, h1.same q, h2⟩
theorem Rd.other {w w' : World} {b c : Nat} {l : List Bool} {x : Int} (h : Rd w b l x) (q : Only c w w') (hb : b ≠ c) : Rd w' b l x := by
  obtain ⟨s, k, h1, h2⟩ := h; exact ⟨s, k, h1.other q hb, h2⟩
theorem Rd.lt {w : World} {b : Nat} {l : List Bool} {x : Int} (h : Rd w b l x) : b < w.heap.size := by
  obtain ⟨s, k, h1, _⟩ := h; exact lt_of_block h1.block
theorem Rd.noBlock {w : World} {b : Nat} {l : List Bool} {x : Int} (h : Rd w b l x) : ∀ a, w.heap[b]? ≠ some (.cells a 61 (0, 0)) := by
  obtain ⟨s, k, h1, _⟩ := h
  intro a h
  rw [h1.block] at h
  injection h with h
  injection h with _ h _
  cases h

theorem err_nil (w : World) : Calls Try.prog 25 #[.pointer none] w fun e w' => e = .returned (.int .i64 10) ∧ w' = w := by
  go_enter Try.func25, Try.ntmps25
  go_wp2
  go_ret
  exact ⟨rfl, rfl⟩
theorem err_p (b : Nat) (s : List UInt8) (k : Nat) (x : Int) (w : World) (h : RdP w b s k x) : Calls Try.prog 25 #[.pointer (some ⟨b, 0, none⟩)] w fun e w' => e = .returned (.int .i64 x) ∧ w' = w := by
  have c2 := h.c2
  clear h
  go_enter Try.func25, Try.ntmps25
  go_wp2
  go_ret
  exact ⟨rfl, rfl⟩
theorem err_at (b : Nat) (l : List Bool) (x : Int) (w : World) (h : Rd w b l x) : Calls Try.prog 25 #[.pointer (some ⟨b, 0, none⟩)] w fun e w' => e = .returned (.int .i64 x) ∧ w' = w := by
  obtain ⟨s, k, h1, _⟩ := h
  exact err_p b s k x w h1
theorem left_nil (w : World) : Calls Try.prog 26 #[.pointer none] w fun e w' => e = .returned (.int .i64 0) ∧ w' = w := by
  have HE := Lib.hid (err_nil w)
  go_enter Try.func26, Try.ntmps26
  go_wp2_with fail
  refine HE.out.mono ?_
  rintro e w1 ⟨rfl, rfl⟩
  go_wp2
  go_ret
  exact ⟨rfl, rfl⟩
theorem left_err (b : Nat) (s : List UInt8) (k : Nat) (x : Int) (w : World) (h : RdP w b s k x) (hx : x ≠ 0) : Calls Try.prog 26 #[.pointer (some ⟨b, 0, none⟩)] w fun e w' => e = .returned (.int .i64 0) ∧ Same w w' := by
  have HE := Lib.hid (err_p b s k x w h)
  clear h
  go_enter Try.func26, Try.ntmps26
  go_wp2_with fail
  refine HE.out.mono ?_
  rintro e w1 ⟨rfl, rfl⟩
  go_wp2
  go_ret
  exact ⟨rfl, Same.refl _⟩
set_option maxRecDepth 100000 in
theorem left_ok (b : Nat) (s : List UInt8) (k : Nat) (w : World) (h : RdP w b s k 0) : Calls Try.prog 26 #[.pointer (some ⟨b, 0, none⟩)] w fun e w' => e = .returned (.int .i64 (8 * s.length - k : Nat)) ∧ Same w w' := by
  have HE := Lib.hid (err_p b s k 0 w h)
  have c0 := h.c0
  have c1 := h.c1
  have hle := h.le
  have hln := h.len
  clear h
  go_enter Try.func26, Try.ntmps26
  go_wp2_with fail
  refine HE.out.mono ?_
  rintro e w1 ⟨rfl, rfl⟩
  go_wp2_with fail
  go_region
  go_wp2
  go_ret
  refine ⟨?_, (Same.refl _).drew⟩
  rw [show ((8 * s.length - k : Nat) : Int) = 8 * (s.length : Int) - (k : Int) by omega]
  rfl
theorem left_at (b : Nat) (l : List Bool) (w : World) (h : Rd w b l 0) : Calls Try.prog 26 #[.pointer (some ⟨b, 0, none⟩)] w fun e w' => e = .returned (.int .i64 l.length) ∧ Same w w' := by
  obtain ⟨s, k, h1, h2⟩ := h
  rw [← h2 rfl, List.length_drop, ofL_len]
  exact left_ok b s k w h1
theorem fail_at (b : Nat) (s : List UInt8) (k : Nat) (x y : Int) (w : World) (h : RdP w b s k x) : Calls Try.prog 30 #[.pointer (some ⟨b, 0, none⟩), .int .i64 y] w fun e w' => e = .returned (.int .u64 0) ∧ RdP w' b s k y ∧ Only b w w' := by
  have c2 := h.c2
  have fr := h.free
  have H := Lib.hid (h.setErr y)
  clear h
  go_enter Try.func30, Try.ntmps30
  go_wp2
  go_ret
  exact ⟨rfl, H.out, Only.setCell _ _ _ _⟩
theorem and8 (c r : Nat) (hc : c < 256) : bits .and .u8 ((c : Int) / 2 ^ r) 1 = ((c.testBit r).toNat : Nat) := by
  have h2 : c / 2 ^ r ≤ c := Nat.div_le_self _ _
  have h := u8_and_nat (c / 2 ^ r) 1 (by omega) (by omega)
  rw [show ((c : Int) / 2 ^ r) = ((c / 2 ^ r : Nat) : Int) by simp, show (1 : Int) = ((1 : Nat) : Int) by rfl, h, Nat.and_one_is_mod, bit_div]
theorem index_at (s : List UInt8) (i : Nat) (hi : i < s.length) (w : World) : (Instr.index 9 (.string ⟨s.toArray⟩) (.int .i64 i)).run Try.prog w = .ok (.int .u8 ((s[i]'hi).toNat : Nat)) w := by
  go_simp
  rfl
set_option maxRecDepth 100000 in
theorem take_at (b : Nat) (s : List UInt8) (k : Nat) (x : Int) (w : World) (h : RdP w b s k x) (hk : k < 8 * s.length) : Calls Try.prog 31 #[.pointer (some ⟨b, 0, none⟩)] w fun e w' => e = .returned (.int .u64 (((ofL s).getD k false).toNat : Nat)) ∧ RdP w' b s (k + 1) x ∧ Only b w w' := by
  have c0 := h.c0
  have c1 := h.c1
  have fr := h.free
  have hln := h.len
  have H := Lib.hid ((h.setAt (k + 1) hk).same (Same.refl _).drew)
  rw [show ((k + 1 : Nat) : Int) = (k : Int) + 1 by omega] at H
  have hi : k / 8 < s.length := by omega
  have hix := index_at s (k / 8) hi
  rw [show ((k / 8 : Nat) : Int) = (k : Int) / 8 by omega] at hix
  have HG := Lib.hid (ofL_get s k hi)
  have hc := UInt8.toNat_lt (s[k / 8]'hi)
  have h8 := and8 (s[k / 8]'hi).toNat (k % 8) hc
  have hb1 : ((s[k / 8]'hi).toNat.testBit (k % 8)).toNat ≤ 1 := by cases (s[k / 8]'hi).toNat.testBit (k % 8) <;> simp
  rw [show (ofL s).getD k false = (s[k / 8]'hi).toNat.testBit (k % 8) by rw [List.getD_eq_getElem?_getD, HG.out]; rfl]
  clear h HG
  generalize (s[k / 8]'hi).toNat.testBit (k % 8) = B at *
  generalize s[k / 8]'hi = c at *
  go_enter Try.func31, Try.ntmps31
  go_wp2_with fail
  go_region
  go_wp2
  go_ret
  exact ⟨rfl, H.out, (Only.setCell b 1 w _).drewNew⟩

theorem bits_nil (n : Int) (w : World) : Calls Try.prog 18 #[.pointer none, .int .i64 n] w fun e w' => e = .returned (.int .u64 0) ∧ w' = w := by
  have HE := Lib.hid (err_nil w)
  go_enter Try.func18, Try.ntmps18
  go_wp2_with fail
  refine HE.out.mono ?_
  rintro e w1 ⟨rfl, rfl⟩
  go_wp2
  go_ret
  exact ⟨rfl, rfl⟩
theorem bits_err (b : Nat) (s : List UInt8) (k : Nat) (x n : Int) (w : World) (h : RdP w b s k x) (hx : x ≠ 0) : Calls Try.prog 18 #[.pointer (some ⟨b, 0, none⟩), .int .i64 n] w fun e w' => e = .returned (.int .u64 0) ∧ w' = w := by
  have HE := Lib.hid (err_p b s k x w h)
  clear h
  go_enter Try.func18, Try.ntmps18
  go_wp2_with fail
  refine HE.out.mono ?_
  rintro e w1 ⟨rfl, rfl⟩
  go_wp2
  go_ret
  exact ⟨rfl, rfl⟩
theorem bits_arg (b : Nat) (s : List UInt8) (k : Nat) (n : Int) (w : World) (h : RdP w b s k 0) (hn : n < 0 ∨ 64 < n) : Calls Try.prog 18 #[.pointer (some ⟨b, 0, none⟩), .int .i64 n] w fun e w' => e = .returned (.int .u64 0) ∧ RdP w' b s k 1 ∧ Only b w w' := by
  have HE := Lib.hid (err_p b s k 0 w h)
  have HF := Lib.hid (fail_at b s k 0 1 w h)
  clear h
  by_cases hn0 : n < 0
  · go_enter Try.func18, Try.ntmps18
    go_wp2_with fail
    refine HE.out.mono ?_
    rintro e w1 ⟨rfl, rfl⟩
    go_wp2_with fail
    refine HF.out.mono ?_
    rintro e w2 ⟨rfl, hr, ho⟩
    go_wp2
    go_ret
    exact ⟨rfl, hr, ho⟩
  · have hn64 : 64 < n := by omega
    clear hn
    go_enter Try.func18, Try.ntmps18
    go_wp2_with fail
    refine HE.out.mono ?_
    rintro e w1 ⟨rfl, rfl⟩
    go_wp2_with fail
    refine HF.out.mono ?_
    rintro e w2 ⟨rfl, hr, ho⟩
    go_wp2
    go_ret
    exact ⟨rfl, hr, ho⟩
theorem bits_short (b : Nat) (s : List UInt8) (k : Nat) (n : Int) (w : World) (h : RdP w b s k 0) (hn0 : 0 ≤ n) (hn64 : n ≤ 64) (hs : ((8 * s.length - k : Nat) : Int) < n) : Calls Try.prog 18 #[.pointer (some ⟨b, 0, none⟩), .int .i64 n] w fun e w' => e = .returned (.int .u64 0) ∧ RdP w' b s k 3 ∧ Only b w w' := by
  have HE := Lib.hid (err_p b s k 0 w h)
  have HL := Lib.hid (left_ok b s k w h)
  have HF := Lib.hid (fun w' (hq : Same w w') => fail_at b s k 0 3 w' (h.same hq))
  clear h
  generalize 8 * s.length - k = z at *
  go_enter Try.func18, Try.ntmps18
  go_wp2_with fail
  refine HE.out.mono ?_
  rintro e w1 ⟨rfl, rfl⟩
  go_wp2_with fail
  refine HL.out.mono ?_
  rintro e w1 ⟨rfl, hq⟩
  go_wp2_with fail
  refine (HF.out _ hq).mono ?_
  rintro e w2 ⟨rfl, hr, ho⟩
  go_wp2
  go_ret
  exact ⟨rfl, hr, (Only.same hq).trans ho⟩
theorem or_wide (x : Nat) (B : Bool) (k : Nat) (hk : k < 64) (hx : x < 2 ^ k) : bits .or .u64 (x : Int) (IntKind.u64.wrap ((B.toNat : Int) * 2 ^ k)) = ((x + B.toNat * 2 ^ k : Nat) : Int) := by
  have h8 : 2 ^ k * 2 ≤ 2 ^ 64 := by
    have : 2 ^ k * 2 = 2 ^ (k + 1) := by rw [Nat.pow_succ]
    rw [this]; exact Nat.pow_le_pow_right (n := 2) (by omega) (show k + 1 ≤ 64 by omega)
  have hcp : B.toNat * 2 ^ k < 2 ^ 64 := by cases B <;> simp <;> omega
  have e : IntKind.u64.wrap ((B.toNat : Int) * 2 ^ k) = ((B.toNat * 2 ^ k : Nat) : Int) := by
    have : ((B.toNat : Int) * 2 ^ k) = ((B.toNat * 2 ^ k : Nat) : Int) := by simp
    rw [this, IntKind.wrap_u64]; omega
  rw [e, u64_or_nat x (B.toNat * 2 ^ k) (by omega) (by omega)]
  congr 1
  rw [Nat.or_comm, Nat.mul_comm, Nat.add_comm, Nat.two_pow_add_eq_or_of_lt hx]
def BtRel (w : World) (b : Nat) (s : List UInt8) (k m : Nat) (vv cv : Value) (wr : World) : Prop :=
  ∃ j : Nat, cv = .int .i64 j ∧ vv = .int .u64 (valL (((ofL s).drop k).take j) : Nat) ∧ j ≤ m ∧ RdP wr b s (k + j) 0 ∧ Only b w wr
set_option maxRecDepth 100000 in
set_option maxHeartbeats 400000 in
theorem bits_ok (b : Nat) (s : List UInt8) (k m : Nat) (w : World) (h : RdP w b s k 0) (hm64 : m ≤ 64) (hs : k + m ≤ 8 * s.length) : Calls Try.prog 18 #[.pointer (some ⟨b, 0, none⟩), .int .i64 m] w fun e w' => e = .returned (.int .u64 (valL (((ofL s).drop k).take m) : Nat)) ∧ RdP w' b s (k + m) 0 ∧ Only b w w' := by
  have HE := Lib.hid (err_p b s k 0 w h)
  have HL := Lib.hid (left_ok b s k w h)
  have HR := Lib.hid h
  have hz : ¬ 8 * s.length - k < m := by omega
  clear h
  have Hlen := Lib.hid (show ((ofL s).drop k).length = 8 * s.length - k by rw [List.length_drop, ofL_len])
  generalize 8 * s.length - k = z at *
  go_enter Try.func18, Try.ntmps18
  go_wp2_with fail
  refine HE.out.mono ?_
  rintro e w ⟨rfl, rfl⟩
  go_wp2_with fail
  refine HL.out.mono ?_
  rintro e w1 ⟨rfl, hq⟩
  have HQ := Lib.hid hq
  clear hq HL HE
  go_wp2_with fail
  go_loopw [5, 25] (fun vv cv wr => BtRel w b s k m vv cv wr) (fun _ cv _ => 64 - (intOf cv).toNat)
  case atStart => exact ⟨0, rfl, rfl, by omega, HR.out.same HQ.out, Only.same HQ.out⟩
  case round =>
    obtain ⟨j, rfl, rfl, hj, hr, ho⟩ := hrel
    have HRr := Lib.hid hr
    have HO := Lib.hid ho
    clear hr ho HR HQ
    by_cases hjm : j < m
    · have HT := Lib.hid (take_at b s (k + j) 0 _ HRr.out (by omega))
      have hjl : j < ((ofL s).drop k).length := by rw [Hlen.out]; omega
      have HN := Lib.hid (val_next ((ofL s).drop k) j hjl)
      have hvl := val_le ((ofL s).drop k) j (by omega)
      have e1 : (ofL s).getD (k + j) false = ((ofL s).drop k)[j]'hjl := by
        rw [List.getElem_drop, List.getD_eq_getElem?_getD, List.getElem?_eq_getElem (by rw [List.length_drop] at hjl; omega)]
        rfl
      rw [e1] at HT
      generalize ((ofL s).drop k)[j]'hjl = B at *
      generalize valL (((ofL s).drop k).take j) = x at *
      clear e1
      go_wp2_with fail
      refine HT.out.mono ?_
      rintro e w2 ⟨rfl, hr2, ho2⟩
      go_wp2
      go_roundw
      case rel => exact ⟨j + 1, by go_num, by rw [HN.out, or_wide x B j (by omega) hvl], by omega, by rw [← Nat.add_assoc]; exact hr2, HO.out.trans ho2⟩
      case measure => simp [intOf]; omega
    · obtain rfl : j = m := by omega
      go_wp2
      go_ret
      exact ⟨rfl, HRr.out, HO.out⟩
end Go.Proofs.Ytgfbiaidbkjeiaa
