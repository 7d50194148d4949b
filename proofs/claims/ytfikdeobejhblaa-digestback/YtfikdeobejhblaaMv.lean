/- Proved: several texts in one: plain mathematics of the varint layer, with no program in it: what a reader's calls take of some bytes, as functions on lists of bytes; a number's bytes are read as the number; what the reader's calls Err, Left, Raw and Byte of package varint answer, and what becomes of memory; what the reader's calls Uint, Int, Text and Done of package varint answer, and what becomes of memory; what the writer's calls Raw, String and Byte of package varint do to memory and answer; what the writer's calls Uint, Int and Text of package varint do to memory; what the document's own reader (package signpostref01) answers, and what becomes of memory; the document's own bytes of numbers and texts (package signpostref01). Each with its conditions where it stands. -/
import Derived.Test.YtfikdeobejhblaaMp1
import Derived.WalkKit
import Derived.Lib.Hide
import Derived.WalkSpells
import Derived.WalkLawsBesides
import Derived.Laws.BitsAllLaws
import Derived.IntWalk
import Derived.OpenShut
import Derived.Laws.BytesArg
import Derived.Deep.QuietTactic
import Derived.BigQuiet
import Derived.BigRegion
import Derived.Handy
import Derived.Deep.RegionHeld3

/- Proved: plain mathematics of the varint layer, with no program in it: what a reader's calls take of some bytes, as functions on lists of bytes; a number's bytes are read as the number. Condition: numbers fit in 64 bits where they are read. -/
namespace Go.Proofs.Ytfikdeobejhblaa.V

/-- Raw: what is taken, what is left, what was wrong. -/
def rawF (l : List UInt8) (x n : Int) : List UInt8 × List UInt8 × Int :=
  if x ≠ 0 then ([], l, x) else if n < 0 then ([], l, 1) else if (l.length : Int) < n then ([], l, 3) else (l.take n.toNat, l.drop n.toNat, 0)

def byteF (l : List UInt8) (x : Int) : UInt8 × List UInt8 × Int :=
  if x ≠ 0 then (0, l, x) else match l with | [] => (0, [], 3) | c :: r => (c, r, 0)

/-- A number: f more bytes may come, k came, that make n. -/
def uintL : Nat → Nat → Nat → List UInt8 → Int → Nat × List UInt8 × Int
  | 0, _, _, l, x => (0, l, x)
  | f + 1, k, n, l, x =>
    if (byteF l x).2.2 ≠ 0 then (0, (byteF l x).2.1, (byteF l x).2.2)
    else if (0 < k ∧ (byteF l x).1.toNat = 0) ∨ (k = 9 ∧ 1 < (byteF l x).1.toNat) then (0, (byteF l x).2.1, 4)
    else if (byteF l x).1.toNat < 128 then (n + (byteF l x).1.toNat % 128 * 2 ^ (7 * k), (byteF l x).2.1, 0)
    else uintL f (k + 1) (n + (byteF l x).1.toNat % 128 * 2 ^ (7 * k)) (byteF l x).2.1 0

def uintF (l : List UInt8) (x : Int) : Nat × List UInt8 × Int := uintL 10 0 0 l x

def intOfN (n : Nat) : Int := if n % 2 = 1 then -(n / 2 : Nat) - 1 else (n / 2 : Nat)

def intF (l : List UInt8) (x : Int) : Int × List UInt8 × Int := (intOfN (uintF l x).1, (uintF l x).2.1, (uintF l x).2.2)

def textF (l : List UInt8) (x most : Int) : List UInt8 × List UInt8 × Int :=
  if (uintF l x).2.2 ≠ 0 then ([], (uintF l x).2.1, (uintF l x).2.2)
  else if most < 0 ∨ most < (uintF l x).1 then ([], (uintF l x).2.1, 7)
  else rawF (uintF l x).2.1 0 (uintF l x).1

def doneF (l : List UInt8) (x : Int) : Int := if x ≠ 0 then x else if 0 < l.length then 4 else 0

theorem byteF_len (l : List UInt8) (x : Int) : (byteF l x).2.1.length ≤ l.length := by
  unfold byteF; split
  · simp
  · split <;> simp

theorem byte_raw (l : List UInt8) (x : Int) : rawF l x 1 = (if (byteF l x).2.2 = 0 then [(byteF l x).1] else [], (byteF l x).2.1, (byteF l x).2.2) := by
  unfold rawF byteF
  split
  · rename_i h; simp
  · cases l with
    | nil => simp
    | cons c r => simp; omega

theorem byteF_zero (l : List UInt8) (x : Int) (h : (byteF l x).2.2 ≠ 0) : (byteF l x).1 = 0 := by
  unfold byteF at h ⊢
  split
  · rfl
  · rename_i hx
    rw [if_neg hx] at h
    cases l with
    | nil => rfl
    | cons c r => simp at h

theorem rawF_len (l : List UInt8) (x n : Int) : (rawF l x n).2.1.length ≤ l.length := by
  unfold rawF; split
  · simp
  · split
    · simp
    · split <;> simp

theorem uintL_len (f : Nat) : ∀ (k n : Nat) (l : List UInt8) (x : Int), (uintL f k n l x).2.1.length ≤ l.length := by
  induction f with
  | zero => intro k n l x; simp [uintL]
  | succ f ih =>
    intro k n l x
    have hb := byteF_len l x
    unfold uintL
    split
    · exact hb
    · split
      · exact hb
      · split
        · exact hb
        · exact Nat.le_trans (ih _ _ _ _) hb

theorem uintF_len (l : List UInt8) (x : Int) : (uintF l x).2.1.length ≤ l.length := uintL_len _ _ _ _ _

theorem uintL_lt (f : Nat) : ∀ (k n : Nat) (l : List UInt8) (x : Int), f + k = 10 → n < 2 ^ (7 * k) → (uintL f k n l x).1 < 2 ^ 64 := by
  induction f with
  | zero => intro k n l x _ _; simp [uintL]
  | succ f ih =>
    intro k n l x hk hn
    have hc : (byteF l x).1.toNat < 256 := by have := (byteF l x).1.toNat_lt; omega
    have hp : 2 ^ (7 * (k + 1)) = 128 * 2 ^ (7 * k) := by rw [show 7 * (k + 1) = 7 * k + 7 from by omega, Nat.pow_add]; omega
    have hmul : (byteF l x).1.toNat % 128 * 2 ^ (7 * k) ≤ 127 * 2 ^ (7 * k) := Nat.mul_le_mul_right _ (by omega)
    unfold uintL
    split
    · simp
    · split
      · simp
      · rename_i h2
        split
        · show n + (byteF l x).1.toNat % 128 * 2 ^ (7 * k) < 2 ^ 64
          by_cases h9 : k = 9
          · subst h9
            have : (byteF l x).1.toNat % 128 * 2 ^ (7 * 9) ≤ 1 * 2 ^ (7 * 9) := Nat.mul_le_mul_right _ (by omega)
            simp only [Nat.reduceMul, Nat.reducePow] at *
            omega
          · have : 2 ^ (7 * k) ≤ 2 ^ 56 := Nat.pow_le_pow_right (by omega) (by omega)
            simp only [Nat.reducePow] at *
            omega
        · by_cases h9 : k = 9
          · omega
          · exact ih (k + 1) _ _ _ (by omega) (by rw [hp]; omega)

theorem uintF_lt (l : List UInt8) (x : Int) : (uintF l x).1 < 2 ^ 64 := uintL_lt 10 0 0 l x rfl (by simp)

/-- A number's bytes. -/
def enc : Nat → List UInt8
  | n => if h : n < 128 then [UInt8.ofNat n] else UInt8.ofNat (n % 128 + 128) :: enc (n / 128)
  termination_by n => n
  decreasing_by omega

theorem enc_lt (n : Nat) (h : n < 128) : enc n = [UInt8.ofNat n] := by rw [enc, dif_pos h]
theorem enc_ge (n : Nat) (h : ¬ n < 128) : enc n = UInt8.ofNat (n % 128 + 128) :: enc (n / 128) := by rw [enc, dif_neg h]

def zig (n : Int) : Nat := if n < 0 then (-(n + 1)).toNat * 2 + 1 else n.toNat * 2

theorem intOfN_zig (n : Int) : intOfN (zig n) = n := by
  unfold intOfN zig
  split <;> split <;> omega

/-- Numbers of at most k seven-bit groups have at most k bytes. -/
theorem enc_len (k : Nat) : ∀ n, n < 2 ^ (7 * k + 7) → (enc n).length ≤ k + 1 := by
  induction k with
  | zero => intro n hn; rw [enc_lt n (by simpa using hn)]; simp
  | succ k ih =>
    intro n hn
    by_cases h : n < 128
    · rw [enc_lt n h]; simp
    · rw [enc_ge n h]
      have := ih (n / 128) (by rw [Nat.div_lt_iff_lt_mul (by omega)]; have : 2 ^ (7 * (k + 1) + 7) = 2 ^ (7 * k + 7) * 128 := by rw [show 7 * (k + 1) + 7 = (7 * k + 7) + 7 from by omega, Nat.pow_add]
                               omega)
      simp; omega

theorem enc_pos (n : Nat) : 1 ≤ (enc n).length := by
  by_cases h : n < 128
  · rw [enc_lt n h]; simp
  · rw [enc_ge n h]; simp

theorem enc_len10 (n : Nat) (h : n < 2 ^ 64) : (enc n).length ≤ 10 := enc_len 9 n (Nat.lt_of_lt_of_le h (by decide))

theorem toNat_ofNat (n : Nat) (h : n < 256) : (UInt8.ofNat n).toNat = n := by simp [UInt8.toNat_ofNat']; omega

theorem byteF_cons (c : UInt8) (r : List UInt8) : byteF (c :: r) 0 = (c, r, 0) := rfl
theorem byteF_nil : byteF [] 0 = (0, [], 3) := rfl

theorem uintL_cons (f k n : Nat) (c : UInt8) (r : List UInt8) : uintL (f + 1) k n (c :: r) 0 =
    if (0 < k ∧ c.toNat = 0) ∨ (k = 9 ∧ 1 < c.toNat) then (0, r, 4)
    else if c.toNat < 128 then (n + c.toNat % 128 * 2 ^ (7 * k), r, 0)
    else uintL f (k + 1) (n + c.toNat % 128 * 2 ^ (7 * k)) r 0 := by
  rw [uintL, byteF_cons, if_neg (by simp)]

theorem uintL_nil (f k n : Nat) : uintL (f + 1) k n [] 0 = (0, [], 3) := by
  rw [uintL, byteF_nil, if_pos (by simp)]

/-- What is written is read as it was, whatever stands behind it: from the k-th byte on. -/
theorem uintL_enc (f : Nat) : ∀ (k n m : Nat) (r : List UInt8), f + k = 10 → 0 < f → n < 2 ^ (64 - 7 * k) → (0 < k → 0 < n) → uintL f k m (enc n ++ r) 0 = (m + n * 2 ^ (7 * k), r, 0) := by
  induction f with
  | zero => intro k n m r _ h; omega
  | succ f ih =>
    intro k n m r hk _ hn hp
    by_cases h : n < 128
    · rw [enc_lt n h]
      have e1 : (UInt8.ofNat n).toNat = n := toNat_ofNat n (by omega)
      rw [List.cons_append, List.nil_append, uintL_cons, e1, if_neg ?_, if_pos h, Nat.mod_eq_of_lt h]
      rintro (⟨a, b⟩ | ⟨a, b⟩)
      · have := hp a; omega
      · subst a; simp at hn; omega
    · rw [enc_ge n h]
      have e1 : (UInt8.ofNat (n % 128 + 128)).toNat = n % 128 + 128 := toNat_ofNat _ (by omega)
      have hk9 : k ≠ 9 := by rintro rfl; simp at hn; omega
      rw [List.cons_append, uintL_cons, e1, if_neg ?_, if_neg (by omega)]
      · rw [ih (k + 1) (n / 128) _ r (by omega) (by omega) ?_ (fun _ => by omega)]
        · congr 1
          have : 2 ^ (7 * (k + 1)) = 128 * 2 ^ (7 * k) := by rw [show 7 * (k + 1) = 7 * k + 7 from by omega, Nat.pow_add]; omega
          rw [this]
          have h3 : (n % 128 + 128) % 128 = n % 128 := by omega
          rw [h3, ← Nat.mul_assoc, Nat.add_assoc, ← Nat.add_mul]
          congr 2
          omega
        · rw [Nat.div_lt_iff_lt_mul (by omega)]
          have : 2 ^ (64 - 7 * k) = 2 ^ (64 - 7 * (k + 1)) * 128 := by rw [show 64 - 7 * k = (64 - 7 * (k + 1)) + 7 from by omega, Nat.pow_add]
          omega
      · rintro (⟨a, b⟩ | ⟨a, b⟩)
        · omega
        · exact hk9 a

theorem uintF_enc (n : Nat) (r : List UInt8) (h : n < 2 ^ 64) : uintF (enc n ++ r) 0 = (n, r, 0) := by
  unfold uintF; rw [uintL_enc 10 0 n 0 r rfl (by omega) (by simpa using h) (fun h => by omega)]; simp

theorem uintF_err (l : List UInt8) (x : Int) (h : x ≠ 0) : uintF l x = (0, l, x) := by
  unfold uintF
  rw [uintL]
  have : byteF l x = (0, l, x) := by unfold byteF; rw [if_pos h]
  rw [this, if_pos h]

end Go.Proofs.Ytfikdeobejhblaa.V

/- Proved: what the reader's calls Err, Left, Raw and Byte of package varint answer, and what becomes of memory. Condition: the reader's two cells are known (Rd), or the pointer is nil. -/
namespace Go.Proofs.Ytfikdeobejhblaa
open Go.RowKit

theorem ext_take (l : List UInt8) (n : Nat) : (⟨l.toArray⟩ : ByteArray).extract 0 n = ⟨(l.take n).toArray⟩ := by
  apply ByteArray.ext; simp [ByteArray.data_extract]
theorem ext_drop (l : List UInt8) (n : Nat) : (⟨l.toArray⟩ : ByteArray).extract n l.length = ⟨(l.drop n).toArray⟩ := by
  apply ByteArray.ext; simp [ByteArray.data_extract]; rw [List.take_of_length_le (by simp)]


theorem Only.below {b : Nat} {u v w : World} {B : Nat} (h : Below B u v) (k : Only b v w) (hb : B ≤ b) (hB : B ≤ v.heap.size) : Below B u w :=
  h.trans ⟨k.os, k.tape, k.output, k.size, fun i hi => k.block i (by omega) (by omega)⟩
theorem Only.cell {b : Nat} {w w' : World} (h : Only b w w') {p : Addr} (hp : p.block < w.heap.size) (hb : p.block ≠ b) : w'.cell? p = w.cell? p := World.cell?_of_block (w := w) (h.block p.block hp hb)
theorem Only.frozen {b : Nat} {w w' : World} (h : Only b w w') {p : Addr} (hp : p.block < w.heap.size) (hb : p.block ≠ b) : w'.frozen? p = w.frozen? p := World.frozen?_of_block (w := w) (h.block p.block hp hb)

/-- A reader lies in block b: l is left, x was wrong. -/
structure Rd (w : World) (b : Nat) (l : List UInt8) (x : Int) : Prop where
  rest : w.cell? ⟨b, 0, none⟩ = some (.string ⟨l.toArray⟩)
  err : w.cell? ⟨b, 1, none⟩ = some (.int .i64 x)
  free0 : w.frozen? ⟨b, 0, none⟩ = false
  free1 : w.frozen? ⟨b, 1, none⟩ = false
  len : l.length ≤ maxLen

theorem Rd.other {w w' : World} {b c : Nat} {l : List UInt8} {x : Int} (h : Rd w b l x) (k : Only c w w') (hb : b ≠ c) (hs : b < w.heap.size) : Rd w' b l x :=
  ⟨(k.cell hs hb).trans h.rest, (k.cell hs hb).trans h.err, (k.frozen hs hb).trans h.free0, (k.frozen hs hb).trans h.free1, h.len⟩
theorem Rd.setErr {w : World} {b : Nat} {l : List UInt8} {x : Int} (h : Rd w b l x) (y : Int) : Rd (w.setCell ⟨b, 1, none⟩ (.int .i64 y)) b l y := by
  have h0 := h.rest; have h1 := h.err; have f0 := h.free0; have f1 := h.free1
  exact ⟨by go_simp, by go_simp, by go_simp, by go_simp, h.len⟩
theorem Rd.setRest {w : World} {b : Nat} {l : List UInt8} {x : Int} (h : Rd w b l x) (m : List UInt8) (hm : m.length ≤ maxLen) : Rd (w.setCell ⟨b, 0, none⟩ (.string ⟨m.toArray⟩)) b m x := by
  have h0 := h.rest; have h1 := h.err; have f0 := h.free0; have f1 := h.free1
  exact ⟨by go_simp, by go_simp, by go_simp, by go_simp, hm⟩
theorem Rd.lt {w : World} {b : Nat} {l : List UInt8} {x : Int} (h : Rd w b l x) : b < w.heap.size := by
  have h0 := h.rest
  by_cases hb : b < w.heap.size
  · exact hb
  · have : w.heap[b]? = none := by simp; omega
    simp [World.cell?, this] at h0

set_option maxHeartbeats 400000 in
theorem err_nil (w : World) : Calls Try.prog 89 #[.pointer none] w fun e w' => e = .returned (.int .i64 10) ∧ w = w' := by
  go_enter Try.func89, Try.ntmps89
  go_wp2
  go_ret
  exact ⟨rfl, rfl⟩

set_option maxHeartbeats 400000 in
theorem err_at (b : Nat) (x : Int) (w : World) (h : w.cell? ⟨b, 1, none⟩ = some (.int .i64 x)) : Calls Try.prog 89 #[.pointer (some ⟨b, 0, none⟩)] w fun e w' => e = .returned (.int .i64 x) ∧ w = w' := by
  go_enter Try.func89, Try.ntmps89
  go_wp2
  go_ret
  exact ⟨rfl, rfl⟩

set_option maxHeartbeats 400000 in
theorem left_nil (w : World) : Calls Try.prog 90 #[.pointer none] w fun e w' => e = .returned (.int .i64 0) ∧ w = w' := by
  go_enter Try.func90, Try.ntmps90
  go_wp2
  go_ret
  exact ⟨rfl, rfl⟩

set_option maxHeartbeats 400000 in
theorem left_at (b : Nat) (s : ByteArray) (w : World) (h : w.cell? ⟨b, 0, none⟩ = some (.string s)) : Calls Try.prog 90 #[.pointer (some ⟨b, 0, none⟩)] w fun e w' => e = .returned (.int .i64 s.size) ∧ w = w' := by
  go_enter Try.func90, Try.ntmps90
  go_wp2
  go_ret
  exact ⟨rfl, rfl⟩

set_option maxHeartbeats 400000 in
theorem raw_nil (n : Int) (w : World) : Calls Try.prog 110 #[.pointer none, .int .i64 n] w fun e w' => e = .returned (.string ⟨#[]⟩) ∧ w = w' := by
  go_enter Try.func110, Try.ntmps110
  go_wp2
  go_ret
  exact ⟨rfl, rfl⟩

set_option maxHeartbeats 400000 in
theorem raw_err (b : Nat) (n x : Int) (w : World) (h1 : w.cell? ⟨b, 1, none⟩ = some (.int .i64 x)) (hx : (x != 0) = true) : Calls Try.prog 110 #[.pointer (some ⟨b, 0, none⟩), .int .i64 n] w fun e w' => e = .returned (.string ⟨#[]⟩) ∧ w = w' := by
  go_enter Try.func110, Try.ntmps110
  go_wp2
  go_ret
  exact ⟨rfl, rfl⟩

set_option maxHeartbeats 400000 in
theorem raw_arg (b : Nat) (n : Int) (w : World) (h1 : w.cell? ⟨b, 1, none⟩ = some (.int .i64 0)) (f1 : w.frozen? ⟨b, 1, none⟩ = false) (hn : n < 0) : Calls Try.prog 110 #[.pointer (some ⟨b, 0, none⟩), .int .i64 n] w fun e w' => e = .returned (.string ⟨#[]⟩) ∧ w.setCell ⟨b, 1, none⟩ (.int .i64 1) = w' := by
  go_enter Try.func110, Try.ntmps110
  go_wp2
  go_ret
  exact ⟨rfl, rfl⟩

set_option maxHeartbeats 400000 in
theorem raw_short (b : Nat) (n : Int) (l : List UInt8) (w : World) (h0 : w.cell? ⟨b, 0, none⟩ = some (.string ⟨l.toArray⟩)) (h1 : w.cell? ⟨b, 1, none⟩ = some (.int .i64 0)) (f1 : w.frozen? ⟨b, 1, none⟩ = false) (hn : 0 ≤ n) (hl : (l.length : Int) < n) : Calls Try.prog 110 #[.pointer (some ⟨b, 0, none⟩), .int .i64 n] w fun e w' => e = .returned (.string ⟨#[]⟩) ∧ w.setCell ⟨b, 1, none⟩ (.int .i64 3) = w' := by
  go_enter Try.func110, Try.ntmps110
  go_wp2
  go_ret
  exact ⟨rfl, rfl⟩


set_option maxHeartbeats 400000 in
theorem raw_ok (b : Nat) (n : Int) (l : List UInt8) (w : World) (h0 : w.cell? ⟨b, 0, none⟩ = some (.string ⟨l.toArray⟩)) (h1 : w.cell? ⟨b, 1, none⟩ = some (.int .i64 0)) (f0 : w.frozen? ⟨b, 0, none⟩ = false) (hn : 0 ≤ n) (hl : n ≤ (l.length : Int)) (_hm : l.length ≤ maxLen) : Calls Try.prog 110 #[.pointer (some ⟨b, 0, none⟩), .int .i64 n] w fun e w' => e = .returned (.string ⟨(l.take n.toNat).toArray⟩) ∧ w.setCell ⟨b, 0, none⟩ (.string ⟨(l.drop n.toNat).toArray⟩) = w' := by
  obtain ⟨n, rfl⟩ := Int.eq_ofNat_of_zero_le hn
  have hl2 : n ≤ l.length := by omega
  unfold maxLen at _hm
  rw [Int.toNat_natCast]
  go_enter Try.func110, Try.ntmps110
  go_wp2
  go_ret
  exact ⟨congrArg (fun s => Ending.returned (.string s)) (ext_take l n), by rw [ext_drop]⟩

def RdPost (b : Nat) (w : World) (v : Value) (l : List UInt8) (x : Int) (e : Ending) (w' : World) : Prop := e = .returned v ∧ Rd w' b l x ∧ Only b w w'

theorem raw_at (b : Nat) (n : Int) (l : List UInt8) (x : Int) (w : World) (h : Rd w b l x) : Calls Try.prog 110 #[.pointer (some ⟨b, 0, none⟩), .int .i64 n] w (RdPost b w (.string ⟨(V.rawF l x n).1.toArray⟩) (V.rawF l x n).2.1 (V.rawF l x n).2.2) := by
  unfold V.rawF
  by_cases hx : x = 0
  · subst hx
    rw [if_neg (by simp)]
    by_cases hn : n < 0
    · rw [if_pos hn]
      refine (raw_arg b n w h.err h.free1 hn).mono ?_
      rintro e w' ⟨rfl, rfl⟩
      exact ⟨rfl, h.setErr 1, Only.setCell _ _ _ _⟩
    · rw [if_neg hn]
      by_cases hl : (l.length : Int) < n
      · rw [if_pos hl]
        refine (raw_short b n l w h.rest h.err h.free1 (by omega) hl).mono ?_
        rintro e w' ⟨rfl, rfl⟩
        exact ⟨rfl, h.setErr 3, Only.setCell _ _ _ _⟩
      · rw [if_neg hl]
        refine (raw_ok b n l w h.rest h.err h.free0 (by omega) (by omega) h.len).mono ?_
        rintro e w' ⟨rfl, rfl⟩
        exact ⟨rfl, h.setRest _ (by have := h.len; simp; omega), Only.setCell _ _ _ _⟩
  · rw [if_pos hx]
    refine (raw_err b n x w h.err (by simpa using hx)).mono ?_
    rintro e w' ⟨rfl, rfl⟩
    exact ⟨rfl, h, Only.refl _ _⟩

set_option maxHeartbeats 400000 in
theorem byte_nil (w : World) : Calls Try.prog 88 #[.pointer none] w fun e w' => e = .returned (.int .u8 0) ∧ w = w' := by
  go_enter Try.func88, Try.ntmps88
  go_wp2
  go_ret
  exact ⟨rfl, rfl⟩

set_option maxHeartbeats 400000 in
theorem byte_at (b : Nat) (l : List UInt8) (x : Int) (w : World) (h : Rd w b l x) : Calls Try.prog 88 #[.pointer (some ⟨b, 0, none⟩)] w (RdPost b w (.int .u8 (V.byteF l x).1.toNat) (V.byteF l x).2.1 (V.byteF l x).2.2) := by
  have hz := V.byteF_zero l x
  have hr := V.byte_raw l x
  generalize V.byteF l x = q at *
  obtain ⟨c, m, y⟩ := q
  by_cases hy : y = 0
  · subst hy
    simp only [if_true] at hr
    have Hr := Lib.hid hr
    clear hr hz
    go_enter Try.func88, Try.ntmps88
    go_wp2_with fail
    refine (raw_at b 1 l x w h).mono ?_
    rintro e w' ⟨rfl, hr', ho⟩
    rw [Hr.out] at hr' ⊢
    go_wp2
    go_ret
    exact ⟨rfl, hr', ho⟩
  · have Hz : c = 0 := hz hy
    subst Hz
    simp only [if_neg hy] at hr
    have Hr := Lib.hid hr
    clear hr hz
    go_enter Try.func88, Try.ntmps88
    go_wp2_with fail
    refine (raw_at b 1 l x w h).mono ?_
    rintro e w' ⟨rfl, hr', ho⟩
    rw [Hr.out] at hr' ⊢
    go_wp2
    go_ret
    exact ⟨rfl, hr', ho⟩
end Go.Proofs.Ytfikdeobejhblaa

/- Proved: what the reader's calls Uint, Int, Text and Done of package varint answer, and what becomes of memory. Condition: the reader's two cells are known (Rd), or the pointer is nil. -/
namespace Go.Proofs.Ytfikdeobejhblaa
open Go.RowKit

theorem err_rd (b : Nat) (l : List UInt8) (x : Int) (w : World) (h : Rd w b l x) : Calls Try.prog 89 #[.pointer (some ⟨b, 0, none⟩)] w fun e w' => e = .returned (.int .i64 x) ∧ w = w' := err_at b x w h.err

theorem or_step (m cn k sh : Nat) (hs : sh = 7 * k) (hm : m < 2 ^ (7 * k)) (hc : cn < 256) (hk : k ≤ 9) (h9 : k = 9 → cn % 128 ≤ 1) :
    bits .or .u64 (m : Int) (IntKind.u64.wrap (IntKind.u64.wrap (bits .and .u8 (cn : Int) 127) * 2 ^ sh)) = ((m + cn % 128 * 2 ^ (7 * k) : Nat) : Int) := by
  subst hs
  have e1 : bits .and .u8 (cn : Int) 127 = ((cn % 128 : Nat) : Int) := by
    have := u8_and_nat cn 127 hc (by omega)
    rw [nat_mask7] at this
    exact this
  have hb : cn % 128 * 2 ^ (7 * k) < 18446744073709551616 ∧ m < 18446744073709551616 := by
    by_cases e : k = 9
    · subst e
      have := h9 rfl
      have : cn % 128 * 2 ^ (7 * 9) ≤ 1 * 2 ^ (7 * 9) := Nat.mul_le_mul_right _ this
      simp only [Nat.reduceMul, Nat.reducePow] at *
      omega
    · have h1 : 2 ^ (7 * k) ≤ 2 ^ 56 := Nat.pow_le_pow_right (by omega) (by omega)
      have h2 : cn % 128 * 2 ^ (7 * k) ≤ 127 * 2 ^ 56 := Nat.mul_le_mul (by omega) h1
      simp only [Nat.reduceMul, Nat.reducePow] at *
      omega
  have e2 : IntKind.u64.wrap (((cn % 128 : Nat) : Int)) = ((cn % 128 : Nat) : Int) := by rw [IntKind.wrap_u64]; omega
  have e3 : (((cn % 128 : Nat) : Int)) * 2 ^ (7 * k) = ((cn % 128 * 2 ^ (7 * k) : Nat) : Int) := by rw [Int.natCast_mul, Int.natCast_pow]; rfl
  rw [e1, e2, e3]
  generalize hp : cn % 128 * 2 ^ (7 * k) = p at *
  have e4 : IntKind.u64.wrap (p : Int) = (p : Int) := by rw [IntKind.wrap_u64]; omega
  rw [e4, u64_or_nat m p hb.2 hb.1, Nat.or_comm, nat_join (7 * k) p m (by rw [← hp]; simp) hm, Nat.add_comm]

def UintRel (b : Nat) (l : List UInt8) (x : Int) (w : World) (n s : Value) (wr : World) : Prop :=
  ∃ f k m sh l' x', f + k = 10 ∧ 0 < f ∧ m < 2 ^ (7 * k) ∧ n = .int .u64 (m : Nat) ∧ s = .int .i64 (sh : Nat) ∧ sh = 7 * k ∧ Rd wr b l' x' ∧ Only b w wr ∧ V.uintF l x = V.uintL f k m l' x' 

set_option maxRecDepth 100000 in
set_option maxHeartbeats 400000 in
theorem uint_at (b : Nat) (l : List UInt8) (x : Int) (w : World) (h : Rd w b l x) : Calls Try.prog 66 #[.pointer (some ⟨b, 0, none⟩)] w (RdPost b w (.int .u64 (V.uintF l x).1) (V.uintF l x).2.1 (V.uintF l x).2.2) := by
  go_enter Try.func66, Try.ntmps66
  go_wp2_with fail
  go_loopw [3, 4] (fun n s wr => UintRel b l x w n s wr) (fun _ s _ => 70 - (intOf s).toNat)
  case atStart => exact ⟨10, 0, 0, 0, l, x, rfl, by omega, by simp, rfl, rfl, rfl, h, Only.refl _ _, rfl⟩
  case round =>
    obtain ⟨f, k, m, sh, l', x', hfk, hf, hm, rfl, rfl, hsh, hr, ho, hu⟩ := hrel
    have Hu := Lib.hid hu
    have Hsh := Lib.hid hsh
    have Hm := Lib.hid hm
    have hs63 : sh ≤ 63 := by omega
    have Hfk := Lib.hid hfk
    clear hu hsh hm hfk
    go_wp2_with fail
    refine (byte_at b l' x' _ hr).mono ?_
    rintro e w' ⟨rfl, hr', ho'⟩
    go_wp2_with fail
    refine (err_rd b _ _ _ hr').mono ?_
    rintro e w' ⟨rfl, rfl⟩
    have hc : (V.byteF l' x').1.toNat < 256 := by have := (V.byteF l' x').1.toNat_lt; omega
    generalize hq : V.byteF l' x' = q at *
    have Hq := Lib.hid hq
    clear hq
    obtain ⟨c, l2, y⟩ := q
    dsimp only at *
    generalize hcn : c.toNat = cn at *
    have Hcn := Lib.hid hcn
    clear hcn
    obtain ⟨g, rfl⟩ : ∃ g, f = g + 1 := ⟨f - 1, by omega⟩
    by_cases hy : y = 0
    · subst hy
      have hE := hr'.err
      have hF := hr'.free1
      have fin : (0 < sh ∧ cn = 0) ∨ (sh = 63 ∧ 1 < cn) → ∀ v, v = Value.int .u64 0 → RdPost b w (.int .u64 (V.uintF l x).1) (V.uintF l x).2.1 (V.uintF l x).2.2 (Ending.returned v) (w'.setCell ⟨b, 1, none⟩ (.int .i64 4)) := by
        intro hbad v hv
        have hL : V.uintF l x = (0, l2, 4) := by
          rw [Hu.out, V.uintL, Hq.out, if_neg (by simp), if_pos (by have := Hsh.out; have := Hcn.out; dsimp only; omega)]
        subst hv
        exact ⟨by rw [hL]; rfl, by rw [hL]; exact hr'.setErr 4, (ho.trans ho').trans (Only.setCell _ _ _ _)⟩
      have Fin := Lib.hid fin
      clear fin
      by_cases hb1 : 0 < sh ∧ cn = 0
      · have Hb1 := Lib.hid hb1
        obtain ⟨hp, hc0⟩ := hb1
        have hc1 : ((cn : Int) == 0) = true := by simp [hc0]
        clear hc0
        go_wp2
        go_ret
        exact Fin.out (.inl Hb1.out) _ rfl
      · have HN1 := Lib.hid hb1
        by_cases hb2 : sh = 63 ∧ 1 < cn
        · have Hb2 := Lib.hid hb2
          have h1 : ((sh : Int) == 63) = true := by simp; omega
          have h2 : 1 < cn := hb2.2
          have h3 : 0 < sh := by omega
          clear hb1 hb2
          go_wp2
          go_ret
          exact Fin.out (.inr Hb2.out) _ rfl
        · have hgo : ¬ (0 < k ∧ c.toNat = 0 ∨ k = 9 ∧ 1 < c.toNat) := by have := Hsh.out; have := Hcn.out; omega
          have Hgo := Lib.hid hgo
          have Hor := Lib.hid (or_step m cn k sh Hsh.out Hm.out hc (by have := Hsh.out; omega) (by have := Hsh.out; omega))
          clear hgo
          by_cases h128 : cn < 128
          · have fin2 : ∀ v, v = Value.int .u64 ((m + cn % 128 * 2 ^ (7 * k) : Nat) : Int) → RdPost b w (.int .u64 (V.uintF l x).1) (V.uintF l x).2.1 (V.uintF l x).2.2 (Ending.returned v) w' := by
              intro v hv
              have hL : V.uintF l x = (m + cn % 128 * 2 ^ (7 * k), l2, 0) := by
                rw [Hu.out, V.uintL, Hq.out, if_neg (by simp), if_neg Hgo.out, if_pos (by have := Hcn.out; dsimp only; omega), Hcn.out]
              subst hv
              exact ⟨by rw [hL], by rw [hL]; exact hr', ho.trans ho'⟩
            have Fin2 := Lib.hid fin2
            clear fin2 Fin
            by_cases h0 : 0 < sh
            · have hcn0 : ((cn : Int) == 0) = false := by simp; omega
              by_cases h63 : sh = 63
              · have h1 : ((sh : Int) == 63) = true := by simp; omega
                have h2 : cn ≤ 1 := by omega
                clear hb1 hb2 h63
                go_wp2
                go_ret
                exact Fin2.out _ (congrArg (Value.int .u64) Hor.out)
              · have h1 : ((sh : Int) == 63) = false := by simp; omega
                clear hb1 hb2 h63
                go_wp2
                go_ret
                exact Fin2.out _ (congrArg (Value.int .u64) Hor.out)
            · have h1 : ((sh : Int) == 63) = false := by simp; omega
              clear hb1 hb2
              go_wp2
              go_ret
              exact Fin2.out _ (congrArg (Value.int .u64) Hor.out)
          · have hne : sh < 63 := by omega
            have h1 : ((sh : Int) == 63) = false := by simp; omega
            have hrel : UintRel b l x w (Value.int .u64 ((m + cn % 128 * 2 ^ (7 * k) : Nat) : Int)) (.int .i64 ((sh + 7 : Nat) : Int)) w' := by
              have hk := Hsh.out
              have hfk := Hfk.out
              refine ⟨g, k + 1, m + cn % 128 * 2 ^ (7 * k), sh + 7, l2, 0, by omega, by omega, ?_, rfl, rfl, by omega, hr', ho.trans ho', ?_⟩
              · have h3 := Hm.out
                have h4 : cn % 128 * 2 ^ (7 * k) ≤ 127 * 2 ^ (7 * k) := Nat.mul_le_mul_right _ (by omega)
                rw [show 7 * (k + 1) = 7 * k + 7 from by omega, Nat.pow_add]
                omega
              · rw [Hu.out, V.uintL, Hq.out, if_neg (by simp), if_neg Hgo.out, if_neg (by have := Hcn.out; dsimp only; omega), Hcn.out]
            have Hrel := Lib.hid hrel
            clear hrel Fin
            by_cases h0 : 0 < sh
            · have hcn0 : ((cn : Int) == 0) = false := by simp; omega
              clear hb1 hb2
              go_wp2
              go_roundw
              case rel => rw [Hor.out]; exact Hrel.out
              case measure => simp [intOf]; omega
            · clear hb1 hb2
              go_wp2
              go_roundw
              case rel => rw [Hor.out]; exact Hrel.out
              case measure => simp [intOf]; omega
    · have hy' : (y != 0) = true := by simpa using hy
      clear hy
      go_wp2
      go_ret
      have hL : V.uintF l x = (0, l2, y) := by
        rw [Hu.out, V.uintL, Hq.out, if_pos (by simpa using hy')]
      exact ⟨by rw [hL]; rfl, by rw [hL]; exact hr', ho.trans ho'⟩

set_option maxRecDepth 100000 in
set_option maxHeartbeats 400000 in
theorem uint_nil (w : World) : Calls Try.prog 66 #[.pointer none] w fun e w' => e = .returned (.int .u64 0) ∧ w = w' := by
  go_enter Try.func66, Try.ntmps66
  go_wp2_with fail
  refine wp_loop_rounds 1 ?_
  rw [rounds_succ]
  go_wp2_with fail
  refine (byte_nil _).mono ?_
  rintro e w' ⟨rfl, rfl⟩
  go_wp2_with fail
  refine (err_nil _).mono ?_
  rintro e w' ⟨rfl, rfl⟩
  go_wp2
  go_ret
  exact ⟨rfl, rfl⟩

set_option maxHeartbeats 400000 in
theorem done_nil (w : World) : Calls Try.prog 67 #[.pointer none] w fun e w' => e = .returned (.int .i64 10) ∧ w = w' := by
  go_enter Try.func67, Try.ntmps67
  go_wp2_with fail
  refine (err_nil _).mono ?_
  rintro e w' ⟨rfl, rfl⟩
  go_wp2
  go_ret
  exact ⟨rfl, rfl⟩

set_option maxHeartbeats 400000 in
theorem done_at (b : Nat) (l : List UInt8) (x : Int) (w : World) (h : Rd w b l x) : Calls Try.prog 67 #[.pointer (some ⟨b, 0, none⟩)] w fun e w' => e = .returned (.int .i64 (V.doneF l x)) ∧ w = w' := by
  unfold V.doneF
  by_cases hx : x = 0
  · subst hx
    rw [if_neg (by simp)]
    by_cases hl : 0 < l.length
    · rw [if_pos hl]
      go_enter Try.func67, Try.ntmps67
      go_wp2_with fail
      refine (err_rd b l 0 w h).mono ?_
      rintro e w' ⟨rfl, rfl⟩
      go_wp2_with fail
      refine (left_at b _ w h.rest).mono ?_
      rintro e w' ⟨rfl, rfl⟩
      have hl2 : 0 < (⟨l.toArray⟩ : ByteArray).size := by simpa [ByteArray.size] using hl
      go_wp2
      go_ret
      exact ⟨rfl, rfl⟩
    · rw [if_neg hl]
      go_enter Try.func67, Try.ntmps67
      go_wp2_with fail
      refine (err_rd b l 0 w h).mono ?_
      rintro e w' ⟨rfl, rfl⟩
      go_wp2_with fail
      refine (left_at b _ w h.rest).mono ?_
      rintro e w' ⟨rfl, rfl⟩
      have hl2 : (⟨l.toArray⟩ : ByteArray).size = 0 := by show l.toArray.size = 0; rw [List.size_toArray]; omega
      rw [hl2]
      clear hl2
      go_wp2
      go_ret
      exact ⟨rfl, rfl⟩
  · rw [if_pos hx]
    have hx' : (x != 0) = true := by simpa using hx
    go_enter Try.func67, Try.ntmps67
    go_wp2_with fail
    refine (err_rd b l x w h).mono ?_
    rintro e w' ⟨rfl, rfl⟩
    go_wp2
    go_ret
    exact ⟨rfl, rfl⟩

theorem half_odd (n : Nat) (h : n < 2 ^ 64) (h1 : ((n : Int) % 2 == 1) = true) : wrap64 (wrap64 (-wrap64 (IntKind.u64.wrap ((n : Int) / 2))) - 1) = V.intOfN n := by
  have h2 : (n : Int) % 2 = 1 := by simpa using h1
  have e1 : IntKind.u64.wrap ((n : Int) / 2) = (n : Int) / 2 := by rw [IntKind.wrap_u64]; omega
  have e2 : wrap64 ((n : Int) / 2) = (n : Int) / 2 := IntWalk.wrap64_in _ (by omega)
  have e3 : wrap64 (-((n : Int) / 2)) = -((n : Int) / 2) := IntWalk.wrap64_in _ (by omega)
  have e4 : wrap64 (-((n : Int) / 2) - 1) = -((n : Int) / 2) - 1 := IntWalk.wrap64_in _ (by omega)
  rw [e1, e2, e3, e4]
  unfold V.intOfN
  rw [if_pos (by omega)]
  omega

theorem half_even (n : Nat) (h : n < 2 ^ 64) (h1 : ((n : Int) % 2 == 1) = false) : wrap64 (IntKind.u64.wrap ((n : Int) / 2)) = V.intOfN n := by
  have h2 : ¬ (n : Int) % 2 = 1 := by simpa using h1
  have e1 : IntKind.u64.wrap ((n : Int) / 2) = (n : Int) / 2 := by rw [IntKind.wrap_u64]; omega
  have e2 : wrap64 ((n : Int) / 2) = (n : Int) / 2 := IntWalk.wrap64_in _ (by omega)
  rw [e1, e2]
  unfold V.intOfN
  rw [if_neg (by omega)]
  omega

end Go.Proofs.Ytfikdeobejhblaa

/- Proved: what the writer's calls Raw, String and Byte of package varint do to memory and answer. Condition: the writer's five cells are known (Wr) and hold fewer than 10^12 bytes, or the pointer is nil. -/
namespace Go.Proofs.Ytfikdeobejhblaa
open Go.RowKit

theorem room_num (k : Nat) (hk : k ≤ 4) : wrap64 (64 * 2 ^ (6 * k)) = 64 * 2 ^ (6 * k) := by
  rcases (show k = 0 ∨ k = 1 ∨ k = 2 ∨ k = 3 ∨ k = 4 by omega) with rfl | rfl | rfl | rfl | rfl <;> decide +kernel

set_option maxHeartbeats 400000 in
theorem room_at (k : Nat) (w : World) (hk : k ≤ 4) : Calls Try.prog 112 #[.int .i64 k] w fun e w' => e = .returned (.int .i64 (64 * 2 ^ (6 * k))) ∧ w' = w := by
  go_enter Try.func112, Try.ntmps112
  go_wp2
  go_ret
  exact ⟨congrArg (fun v => Ending.returned (Value.int .i64 v)) (room_num k hk), rfl⟩

set_option maxHeartbeats 400000 in
theorem wraw_nil (s : ByteArray) (w : World) : Calls Try.prog 93 #[.pointer none, .string s] w fun e w' => e = .returned (.tuple #[]) ∧ w = w' := by
  go_enter Try.func93, Try.ntmps93
  go_wp2
  go_returns
  exact ⟨rfl, rfl⟩

theorem conv_one (c : Int) (w : World) : (convert 87 9 (.slice (some ⟨w.heap.size, 0, none⟩) 1 1)).run Try.prog (w.alloc (.cells #[.int .u8 c] 5)) = .ok (.string ⟨#[UInt8.ofNat c.toNat]⟩) (w.alloc (.cells #[.int .u8 c] 5)) := by
  refine run_convert_bytes_arg (w.alloc (.cells #[.int .u8 c] 5)) 87 5 Try.underlying87 Try.underlying5 w.heap.size 0 1 1 [c] rfl ?_ 9 Try.underlying9
  intro i hi
  obtain rfl : i = 0 := by omega
  go_simp

def joinP (p : Nat → List UInt8) : List UInt8 := p 4 ++ (p 3 ++ (p 2 ++ (p 1 ++ p 0)))
def moveP (k : Nat) (p : Nat → List UInt8) : Nat → List UInt8 := fun i => if i = k + 1 then p (k + 1) ++ p k else if i = k then [] else p i
theorem joinP_move (k : Nat) (p : Nat → List UInt8) (hk : k < 4) : joinP (moveP k p) = joinP p := by
  rcases (show k = 0 ∨ k = 1 ∨ k = 2 ∨ k = 3 by omega) with rfl | rfl | rfl | rfl <;> simp [joinP, moveP]
theorem joinP_len (i : Nat) (p : Nat → List UInt8) (hi : i < 4) : (p i).length + (p (i + 1)).length ≤ (joinP p).length := by
  rcases (show i = 0 ∨ i = 1 ∨ i = 2 ∨ i = 3 by omega) with rfl | rfl | rfl | rfl <;> simp [joinP] <;> omega

structure WrP (w : World) (b : Nat) (p : Nat → List UInt8) : Prop where
  cell : ∀ i, i < 5 → w.cell? ⟨b, i, none⟩ = some (.string ⟨(p i).toArray⟩)
  free : ∀ i, i < 5 → w.frozen? ⟨b, i, none⟩ = false

/-- A writer lies in block b: it has the bytes s. -/
def Wr (w : World) (b : Nat) (s : List UInt8) : Prop := ∃ p, WrP w b p ∧ joinP p = s

theorem app_list (x y : List UInt8) : (⟨x.toArray⟩ ++ ⟨y.toArray⟩ : ByteArray) = ⟨(x ++ y).toArray⟩ := by
  apply ByteArray.ext; simp

theorem WrP.put {w : World} {b : Nat} {p : Nat → List UInt8} (h : WrP w b p) (k : Nat) (hk : k < 5) (v : List UInt8) : WrP (w.setCell ⟨b, k, none⟩ (.string ⟨v.toArray⟩)) b (fun i => if i = k then v else p i) := by
  refine ⟨fun i hi => ?_, fun i hi => by rw [World.frozen?_setCell]; exact h.free i hi⟩
  by_cases e : i = k
  · subst e
    simp only [if_true]
    exact World.cell?_setCell_same _ _ _ (h.cell i hi)
  · simp only [if_neg e]
    rw [World.cell?_setCell_other _ _ _ _ (by intro x; injection x with _ x _; omega)]
    exact h.cell i hi

theorem WrP.drewN {w : World} {b : Nat} {p : Nat → List UInt8} (h : WrP w b p) (n : Nat) : WrP (w.drewN n) b p := ⟨h.cell, h.free⟩
theorem Only.drewN (b n : Nat) (w : World) : Only b w (w.drewN n) := ⟨rfl, rfl, rfl, Nat.le_refl _, fun _ _ _ => rfl⟩
theorem Wr.drewN {w : World} {b : Nat} {t : List UInt8} (h : Wr w b t) (n : Nat) : Wr (w.drewN n) b t := by
  obtain ⟨p, hp, e⟩ := h; exact ⟨p, hp.drewN n, e⟩
theorem Wr.other {w w' : World} {b c : Nat} {t : List UInt8} (h : Wr w b t) (k : Only c w w') (hb : b ≠ c) (hs : b < w.heap.size) : Wr w' b t := by
  obtain ⟨p, hp, e⟩ := h
  exact ⟨p, ⟨fun i hi => (k.cell hs hb).trans (hp.cell i hi), fun i hi => (k.frozen hs hb).trans (hp.free i hi)⟩, e⟩
theorem Wr.lt {w : World} {b : Nat} {t : List UInt8} (h : Wr w b t) : b < w.heap.size := by
  obtain ⟨p, hp, _⟩ := h
  have h0 := hp.cell 0 (by omega)
  by_cases hb : b < w.heap.size
  · exact hb
  · have : w.heap[b]? = none := by simp; omega
    simp [World.cell?, this] at h0

theorem Only.alloc (b : Nat) (w : World) (o : Obj) : Only b w (w.alloc o) :=
  ⟨rfl, rfl, rfl, by simp, fun k hk _ => Below.heap_alloc _ _ _ hk⟩
theorem Wr.kept {w w' : World} {b : Nat} {t : List UInt8} (h : Wr w b t) (k : w'.heap[b]? = w.heap[b]?) : Wr w' b t := by
  obtain ⟨p, hp, e⟩ := h
  exact ⟨p, ⟨fun i hi => (World.cell?_of_block (w := w) (a := ⟨b, i, none⟩) k).trans (hp.cell i hi), fun i hi => (World.frozen?_of_block (w := w) (a := ⟨b, i, none⟩) k).trans (hp.free i hi)⟩, e⟩
theorem Wr.alloc {w : World} {b : Nat} {t : List UInt8} (h : Wr w b t) (o : Obj) : Wr (w.alloc o) b t := h.kept (Below.heap_alloc _ _ _ h.lt)

theorem start_rel (b : Nat) (w : World) (p : Nat → List UInt8) (s : List UInt8) (hp : WrP w b p) : Wr (w.setCell ⟨b, 0, none⟩ (Value.string (⟨(p 0).toArray⟩ ++ ⟨s.toArray⟩))).drew b (joinP p ++ s) ∧ Only b w (w.setCell ⟨b, 0, none⟩ (Value.string (⟨(p 0).toArray⟩ ++ ⟨s.toArray⟩))).drew := by
  rw [app_list]
  exact ⟨⟨_, (hp.put 0 (by omega) (p 0 ++ s)).drewN 1, by simp [joinP]⟩, (Only.setCell b 0 w _).trans (Only.drewN b 1 _)⟩

theorem move_rel (b k n : Nat) (w : World) (p : Nat → List UInt8) (hk : k < 4) (hp : WrP w b p) :
    Wr (((w.drewN n).setCell ⟨b, k + 1, none⟩ (Value.string (⟨(p (k + 1)).toArray⟩ ++ ⟨(p k).toArray⟩))).setCell ⟨b, k, none⟩ (Value.string ⟨#[]⟩)) b (joinP p) ∧
    Only b w (((w.drewN n).setCell ⟨b, k + 1, none⟩ (Value.string (⟨(p (k + 1)).toArray⟩ ++ ⟨(p k).toArray⟩))).setCell ⟨b, k, none⟩ (Value.string ⟨#[]⟩)) := by
  rw [app_list]
  refine ⟨⟨_, (((hp.drewN n).put (k + 1) (by omega) _).put k (by omega) []), ?_⟩, ((Only.drewN b n w).trans (Only.setCell b _ _ _)).trans (Only.setCell b _ _ _)⟩
  rw [← joinP_move k p hk]
  congr 1
  funext i
  unfold moveP
  by_cases e1 : i = k
  · subst e1; simp
  · simp [e1]

def RawRel (b : Nat) (w : World) (t : List UInt8) (i : Value) (wr : World) : Prop := ∃ k : Nat, k ≤ 4 ∧ i = .int .i64 k ∧ Wr wr b t ∧ Only b w wr

set_option maxHeartbeats 400000 in
theorem wraw_at (b : Nat) (s t : List UInt8) (w : World) (h : Wr w b t) (hl : t.length + s.length ≤ 1000000000000) :
    Calls Try.prog 93 #[.pointer (some ⟨b, 0, none⟩), .string ⟨s.toArray⟩] w fun e w' => e = .returned (.tuple #[]) ∧ Wr w' b (t ++ s) ∧ Only b w w' := by
  obtain ⟨p, hp, rfl⟩ := h
  have c0 := hp.cell 0 (by omega)
  have f0 := hp.free 0 (by omega)
  have l0 : (p 0).length + s.length ≤ 9223372036854775807 := by have := joinP_len 0 p (by omega); omega
  go_enter Try.func93, Try.ntmps93
  go_wp2
  go_region
  go_wp2
  go_loopw [4] (fun i wr => RawRel b w (joinP p ++ s) i wr) (fun i _ => 5 - (intOf i).toNat)
  case atStart => exact ⟨0, by omega, rfl, (start_rel b w p s hp).1, (start_rel b w p s hp).2⟩
  case round =>
    clear c0 f0 l0 hp
    obtain ⟨k, hk, rfl, ⟨q, hq, hj⟩, ho⟩ := hrel
    have Hj := Lib.hid hj
    clear hj
    by_cases hk4 : k < 4
    · have ck := hq.cell k (by omega)
      have ck1 := hq.cell (k + 1) (by omega)
      have fk := hq.free k (by omega)
      have fk1 := hq.free (k + 1) (by omega)
      have hk5 : (k : Int) + 1 < 5 := by omega
      by_cases hR : (64 * 2 ^ (6 * k) : Int) ≤ ((q k).length : Int)
      · go_wp2_with fail
        go_quiet ((go_at_call 112; exact Calls.quiet_of_same (room_at k _ (by omega))))
        go_wp2
        have hlk : (q (k + 1)).length + (q k).length ≤ 9223372036854775807 := by have := joinP_len k q hk4; rw [Hj.out, List.length_append] at this; omega
        go_region
        go_wp2
        go_roundw
        case rel => exact ⟨k + 1, by omega, by go_num, Hj.out ▸ (move_rel b k (nq + 1) wr q hk4 hq).1, ho.trans (move_rel b k (nq + 1) wr q hk4 hq).2⟩
        case measure => simp [intOf]; omega
      · go_wp2_with fail
        go_quiet ((go_at_call 112; exact Calls.quiet_of_same (room_at k _ (by omega))))
        go_wp2
        go_returns
        exact ⟨rfl, ⟨q, hq.drewN _, Hj.out⟩, ho.trans (Only.drewN b _ _)⟩
    · have hd : decide ((k : Int) + 1 < 5) = false := by simp; omega
      go_wp2_with fail
      go_quiet (fail)
      go_wp2
      go_returns
      exact ⟨rfl, ⟨q, hq.drewN _, Hj.out⟩, ho.trans (Only.drewN b _ _)⟩

set_option maxHeartbeats 400000 in
theorem wstring_nil (w : World) : Calls Try.prog 70 #[.pointer none] w fun e w' => e = .returned (.string ⟨#[]⟩) ∧ w = w' := by
  go_enter Try.func70, Try.ntmps70
  go_wp2
  go_ret
  exact ⟨rfl, rfl⟩

theorem index5 (x0 x1 x2 x3 x4 : ByteArray) (w : World) :
    (Instr.index 109 (.agg #[.string x0, .string x1, .string x2, .string x3, .string x4]) (.int .i64 0)).run Try.prog w = .ok (.string x0) w ∧
    (Instr.index 109 (.agg #[.string x0, .string x1, .string x2, .string x3, .string x4]) (.int .i64 1)).run Try.prog w = .ok (.string x1) w ∧
    (Instr.index 109 (.agg #[.string x0, .string x1, .string x2, .string x3, .string x4]) (.int .i64 2)).run Try.prog w = .ok (.string x2) w ∧
    (Instr.index 109 (.agg #[.string x0, .string x1, .string x2, .string x3, .string x4]) (.int .i64 3)).run Try.prog w = .ok (.string x3) w ∧
    (Instr.index 109 (.agg #[.string x0, .string x1, .string x2, .string x3, .string x4]) (.int .i64 4)).run Try.prog w = .ok (.string x4) w :=
  ⟨by kernel_rfl, by kernel_rfl, by kernel_rfl, by kernel_rfl, by kernel_rfl⟩

set_option maxHeartbeats 400000 in
theorem wstring_at (b : Nat) (t : List UInt8) (w : World) (h : Wr w b t) (hl : t.length ≤ 1000000000000) : Calls Try.prog 70 #[.pointer (some ⟨b, 0, none⟩)] w fun e w' => e = .returned (.string ⟨t.toArray⟩) ∧ w = w' := by
  obtain ⟨p, hp, rfl⟩ := h
  have c0 := hp.cell 0 (by omega)
  have c1 := hp.cell 1 (by omega)
  have c2 := hp.cell 2 (by omega)
  have c3 := hp.cell 3 (by omega)
  have c4 := hp.cell 4 (by omega)
  have hl2 : (p 4).length + ((p 3).length + ((p 2).length + ((p 1).length + (p 0).length))) ≤ 1000000000000 := by simpa [joinP] using hl
  unfold joinP
  generalize p 0 = p0 at *
  generalize p 1 = p1 at *
  generalize p 2 = p2 at *
  generalize p 3 = p3 at *
  generalize p 4 = p4 at *
  obtain ⟨i0, i1, i2, i3, i4⟩ := index5 ⟨p0.toArray⟩ ⟨p1.toArray⟩ ⟨p2.toArray⟩ ⟨p3.toArray⟩ ⟨p4.toArray⟩ w
  clear hl
  go_enter Try.func70, Try.ntmps70
  go_wp2
  go_rounds 6
  go_ret
  refine ⟨congrArg (fun x => Ending.returned (Value.string x)) ?_, rfl⟩
  rw [show (⟨#[]⟩ : ByteArray) = ⟨([] : List UInt8).toArray⟩ from rfl]
  simp only [app_list, List.append_nil]

end Go.Proofs.Ytfikdeobejhblaa

/- Proved: what the writer's calls Uint, Int and Text of package varint do to memory. Condition: the writer's five cells are known (Wr) and hold fewer than 10^12 bytes, or the pointer is nil; numbers fit in 64 bits. -/
namespace Go.Proofs.Ytfikdeobejhblaa
open Go.RowKit

theorem Try.info5 : (Try.prog.info? 5).map (fun i => (i.zero, i.size, i.bytes)) = some (some (.int .u8 0), 1, 1) := by kernel_rfl

theorem conv_row {w : World} {B : Nat} {v : Value} {n : Nat} {ys : List Value} (xs : List Int) (h : w.ownsRow B 5 1 v n ys) (hys : ys = xs.map (Value.int .u8)) : (convert 87 9 v).run Try.prog w = .ok (.string (strOfNums xs)) w := by
  subst hys
  obtain ⟨h1, h2⟩ := h
  rcases h2 with ⟨rfl, hn⟩ | ⟨g, cap, cur, rfl, hb, hg, h3, h4, h5, h6⟩
  · have : xs = [] := by simp at h1; exact List.eq_nil_of_length_eq_zero (by omega)
    subst this
    rw [run_convert_bytes_nil w 87 5 Try.underlying87 Try.underlying5 0 0 9 Try.underlying9]
    rfl
  · refine run_convert_bytes_arg w 87 5 Try.underlying87 Try.underlying5 g 0 n cap xs (by simpa using h1) ?_ 9 Try.underlying9
    intro i hi
    have hi' : i < xs.length := by simp at h1; omega
    have h7 : cur.toList[i]? = some (Value.int .u8 (xs.getD i 0)) := by
      have h8 : (cur.toList.take (n * 1))[i]? = cur.toList[i]? := List.getElem?_take_of_lt (by omega)
      rw [← h8, h6, List.getElem?_map, List.getD_eq_getElem?_getD, List.getElem?_eq_getElem hi']
      rfl
    have h9 : cur[i]? = some (Value.int .u8 (xs.getD i 0)) := by rw [← h7]; simp
    simp [World.cell?, hg, h9]

set_option maxHeartbeats 400000 in
theorem make10 (w : World) : (Instr.makeSlice 87 (.int .i64 0) (.int .i64 10)).run Try.prog w = .ok (.slice (some ⟨w.heap.size, 0, none⟩) 0 10) (w.alloc (.cells #[.int .u8 0, .int .u8 0, .int .u8 0, .int .u8 0, .int .u8 0, .int .u8 0, .int .u8 0, .int .u8 0, .int .u8 0, .int .u8 0] 5)) := by kernel_rfl

def UintW (w : World) (n : Nat) (nv lv : Value) (wr : World) : Prop :=
  ∃ (m : Nat) (xs : List Int), nv = .int .u64 m ∧ m < 2 ^ 64 ∧ wr.ownsRow w.heap.size 5 1 lv xs.length (xs.map (Value.int .u8)) ∧ V.enc n = (xs.map fun c => UInt8.ofNat c.toNat) ++ V.enc m ∧ Below w.heap.size w wr

theorem or_byte (m : Nat) : bits .or .u8 (IntKind.u8.wrap (m : Int)) 128 = ((m % 128 + 128 : Nat) : Int) := by
  have e1 : IntKind.u8.wrap (m : Int) = ((m % 256 : Nat) : Int) := by rw [IntKind.wrap_u8']; omega
  rw [e1]
  have e2 := u8_or_nat (m % 256) 128 (by omega) (by omega)
  rw [show ((128 : Nat) : Int) = 128 from rfl] at e2
  rw [e2]
  congr 1
  have : m % 256 = m % 128 ∨ m % 256 = 128 + m % 128 := by omega
  rcases this with h | h
  · rw [h, Nat.or_comm, nat_join 7 128 (m % 128) (by decide) (by omega)]; omega
  · rw [h, ← nat_join 7 128 (m % 128) (by decide) (by omega), Nat.or_comm, ← Nat.or_assoc, Nat.or_self, nat_join 7 128 (m % 128) (by decide) (by omega)]; omega

theorem enc_step (xs : List Int) (m : Nat) (h : ¬ m < 128) : (xs.map fun c => UInt8.ofNat c.toNat) ++ V.enc m = ((xs ++ [bits .or .u8 (IntKind.u8.wrap (m : Int)) 128]).map fun c => UInt8.ofNat c.toNat) ++ V.enc (m / 128) := by
  rw [V.enc_ge m h, or_byte m, List.map_append, List.append_assoc]
  rfl

set_option maxRecDepth 100000 in
set_option maxHeartbeats 400000 in
theorem wuint_core (pv : Value) (n : Nat) (hn : n < 2 ^ 64) (w : World) (Q : World → Prop) (H : ∀ w1, Below w.heap.size w w1 → Calls Try.prog 93 #[pv, .string ⟨(V.enc n).toArray⟩] w1 fun e w' => e = .returned (.tuple #[]) ∧ Q w') :
    Calls Try.prog 69 #[pv, .int .u64 n] w fun e w' => e = .returned (.tuple #[]) ∧ Q w' := by
  have hmk := make10
  obtain ⟨i0, hi, hz0, hz1, hz2⟩ := info_parts Try.info5
  have HH := Lib.hid H
  have Hn := Lib.hid hn
  clear H hn
  go_enter Try.func69, Try.ntmps69
  go_wp2
  go_loopw [1, 4] (fun nv lv wr => UintW w n nv lv wr) (fun nv _ _ => (intOf nv).toNat)
  case atStart => exact ⟨n, [], rfl, Hn.out, World.ownsRow_made w _ 10 (Nat.le_refl _) (by decide) rfl, by simp, (Below.refl _ _).alloc (Nat.le_refl _) _⟩
  case round =>
    obtain ⟨m, xs, rfl, hm, hown, henc, hbel⟩ := hrel
    have Hm := Lib.hid hm
    have Henc := Lib.hid henc
    have hxl : xs.length ≤ 10 := by have := V.enc_len10 n Hn.out; rw [henc] at this; simp at this; omega
    clear hm henc
    by_cases h128 : m < 128
    · have hlt : m < 128 := h128
      go_wp2_with (at_builtin; refine wpList_append_own _ rfl _ _ 87 rfl w.heap.size 5 i0 (.int .u8 0) 1 1 Try.underlying87 hi hz0 hz1 hz2 rfl (by decide) _ _ _ rfl (hown.alloc _) ⟨wr.heap.size, 0, none⟩ 1 1 [.int .u8 (m : Int)] rfl rfl (cell_one_new _ _ _) ?d2 ?d3 ?d4 ?d5 ?_)
      case d2 => intro u hu; simp at hu; subst hu; rfl
      case d3 => unfold maxLen; omega
      case d4 => omega
      case d5 => have := hbel.size; simp; omega
      · intro v' w1 hown' hgrow _
        have hcv := conv_row (xs ++ [(m : Int)]) hown' (by simp)
        have hs : strOfNums (xs ++ [(m : Int)]) = ⟨(V.enc n).toArray⟩ := by
          rw [Henc.out, V.enc_lt m hlt]; simp [strOfNums]
        rw [hs] at hcv
        have hb1 : Below w.heap.size w w1 := (hbel.alloc hbel.size _).grown hgrow (by have := hbel.size; simp; omega) (fun k hk => (hown.lt k hk).1)
        clear hs hown' hgrow
        go_wp2_with fail
        refine (HH.out w1 hb1).mono ?_
        rintro e w' ⟨rfl, hq⟩
        go_wp2
        go_returns
        exact ⟨rfl, hq⟩
    · have hge : 128 ≤ m := by omega
      go_wp2_with (at_builtin; refine wpList_append_own _ rfl _ _ 87 rfl w.heap.size 5 i0 (.int .u8 0) 1 1 Try.underlying87 hi hz0 hz1 hz2 rfl (by decide) _ _ _ rfl (hown.alloc _) ⟨wr.heap.size, 0, none⟩ 1 1 [.int .u8 (bits .or .u8 (IntKind.u8.wrap (m : Int)) 128)] rfl rfl (cell_one_new _ _ _) ?c2 ?c3 ?c4 ?c5 ?_)
      case c2 => intro u hu; simp at hu; subst hu; rfl
      case c3 => unfold maxLen; omega
      case c4 => omega
      case c5 => have := hbel.size; simp; omega
      · intro v' w1 hown' hgrow _
        have hb1 : Below w.heap.size w w1 := (hbel.alloc hbel.size _).grown hgrow (by have := hbel.size; simp; omega) (fun k hk => (hown.lt k hk).1)
        have hrel : UintW w n (.int .u64 ((m / 128 : Nat) : Int)) v' w1 := by
          refine ⟨m / 128, xs ++ [bits .or .u8 (IntKind.u8.wrap (m : Int)) 128], rfl, by have := Hm.out; omega, ?_, ?_, hb1⟩
          · rw [List.length_append, List.map_append]; exact hown'
          · rw [Henc.out, enc_step xs m h128]
        have Hrel := Lib.hid hrel
        clear hrel hown' hgrow
        go_wp2
        go_roundw
        case rel => exact Hrel.out
        case measure => simp [intOf]; omega

theorem Wr.below {w w' : World} {b : Nat} {t : List UInt8} (h : Wr w b t) (k : Below w.heap.size w w') : Wr w' b t := h.kept (k.block b h.lt)
theorem Only.ofBelow {w w' : World} (b : Nat) (k : Below w.heap.size w w') : Only b w w' := ⟨k.os, k.tape, k.output, k.size, fun i hi _ => k.block i hi⟩

def WrPost (b : Nat) (w : World) (t : List UInt8) (e : Ending) (w' : World) : Prop := e = .returned (.tuple #[]) ∧ Wr w' b t ∧ Only b w w'

theorem wuint_at (b n : Nat) (t : List UInt8) (w : World) (hn : n < 2 ^ 64) (h : Wr w b t) (hl : t.length + 10 ≤ 1000000000000) : Calls Try.prog 69 #[.pointer (some ⟨b, 0, none⟩), .int .u64 n] w (WrPost b w (t ++ V.enc n)) := by
  refine wuint_core _ n hn w (fun w' => Wr w' b (t ++ V.enc n) ∧ Only b w w') ?_
  intro w1 hb
  refine (wraw_at b (V.enc n) t w1 (h.below hb) (by have := V.enc_len10 n hn; omega)).mono ?_
  rintro e w' ⟨rfl, hw, ho⟩
  exact ⟨rfl, hw, (Only.ofBelow b hb).trans ho⟩

theorem wuint_nil (n : Nat) (w : World) (hn : n < 2 ^ 64) : Calls Try.prog 69 #[.pointer none, .int .u64 n] w fun e w' => e = .returned (.tuple #[]) ∧ Below w.heap.size w w' := by
  refine wuint_core _ n hn w (fun w' => Below w.heap.size w w') ?_
  intro w1 hb
  refine (wraw_nil _ w1).mono ?_
  rintro e w' ⟨rfl, rfl⟩
  exact ⟨rfl, hb⟩

theorem zig_lt (n : Int) (h : (Lit.int .i64 n).wf = true) : V.zig n < 2 ^ 64 := by
  have := bounds_i64 h
  unfold V.zig
  split <;> omega

theorem zig_neg (n : Int) (h : (Lit.int .i64 n).wf = true) (hn : n < 0) : IntKind.u64.wrap (IntKind.u64.wrap (IntKind.u64.wrap (wrap64 (-wrap64 (n + 1))) * 2) + 1) = ((V.zig n : Nat) : Int) := by
  have hb := bounds_i64 h
  have e1 : wrap64 (n + 1) = n + 1 := IntWalk.wrap64_in _ (by omega)
  have e2 : wrap64 (-(n + 1)) = -(n + 1) := IntWalk.wrap64_in _ (by omega)
  rw [e1, e2, IntKind.wrap_u64, IntKind.wrap_u64, IntKind.wrap_u64]
  unfold V.zig
  rw [if_pos hn]
  omega

theorem zig_pos (n : Int) (h : (Lit.int .i64 n).wf = true) (hn : 0 ≤ n) : IntKind.u64.wrap (IntKind.u64.wrap n * 2) = ((V.zig n : Nat) : Int) := by
  have hb := bounds_i64 h
  rw [IntKind.wrap_u64, IntKind.wrap_u64]
  unfold V.zig
  rw [if_neg (by omega)]
  omega

end Go.Proofs.Ytfikdeobejhblaa

/- Proved: what the document's own reader (package signpostref01) answers, and what becomes of memory. Condition: its two cells are known (Rd). -/
namespace Go.Proofs.Ytfikdeobejhblaa
open Go.RowKit

def NewRd (w : World) (l : List UInt8) : World := w.alloc (.cells #[.string ⟨l.toArray⟩, .int .i64 0] 131)
theorem NewRd.rd (w : World) (l : List UInt8) (hl : l.length ≤ maxLen) : Rd (NewRd w l) w.heap.size l 0 := by
  unfold NewRd
  exact ⟨by go_simp, by go_simp, by go_simp, by go_simp, hl⟩
theorem NewRd.below (w : World) (l : List UInt8) : Below w.heap.size w (NewRd w l) := (Below.refl _ _).alloc (Nat.le_refl _) _
theorem NewRd.size (w : World) (l : List UInt8) : (NewRd w l).heap.size = w.heap.size + 1 := by unfold NewRd; simp

set_option maxHeartbeats 400000 in
theorem newreader_at (l : List UInt8) (w : World) : Calls Try.prog 65 #[.string ⟨l.toArray⟩] w fun e w' => e = .returned (.pointer (some ⟨w.heap.size, 0, none⟩)) ∧ NewRd w l = w' := by
  go_enter Try.func65, Try.ntmps65
  go_wp2
  go_ret
  exact ⟨rfl, rfl⟩

def ReaderPost (w : World) (l : List UInt8) (e : Ending) (w' : World) : Prop := ∃ b, e = .returned (.pointer (some ⟨b, 0, none⟩)) ∧ b = w.heap.size ∧ Rd w' b l 0 ∧ Below w.heap.size w w'
theorem newreader (l : List UInt8) (w : World) (hl : l.length ≤ maxLen) : Calls Try.prog 65 #[.string ⟨l.toArray⟩] w (ReaderPost w l) := by
  refine (newreader_at l w).mono ?_
  rintro e w' ⟨rfl, rfl⟩
  exact ⟨w.heap.size, rfl, rfl, NewRd.rd w l hl, NewRd.below w l⟩

theorem Rd.below {w w' : World} {b : Nat} {l : List UInt8} {x : Int} (h : Rd w b l x) (k : Below w.heap.size w w') : Rd w' b l x :=
  ⟨(k.cell h.lt).trans h.rest, (k.cell h.lt).trans h.err, (k.frozen h.lt).trans h.free0, (k.frozen h.lt).trans h.free1, h.len⟩

theorem bOnly {N : Nat} {u v w : World} {b : Nat} (h : Below N u v) (k : Only b v w) (hb : N ≤ b) (hN : N ≤ u.heap.size) : Below N u w := Only.below h k hb (Nat.le_trans hN h.size)
theorem bMore {N : Nat} {u v w : World} (h : Below N u v) (k : Below v.heap.size v w) (hN : N ≤ u.heap.size) : Below N u w := h.trans (k.mono (Nat.le_trans hN h.size))

set_option maxHeartbeats 400000 in
theorem fail_at (b : Nat) (y : Int) (w : World) (h1 : w.cell? ⟨b, 1, none⟩ = some (.int .i64 0)) (f1 : w.frozen? ⟨b, 1, none⟩ = false) : Calls Try.prog 92 #[.pointer (some ⟨b, 0, none⟩), .int .i64 y] w fun e w' => e = .returned (.tuple #[]) ∧ w.setCell ⟨b, 1, none⟩ (.int .i64 y) = w' := by
  go_enter Try.func92, Try.ntmps92
  go_wp2
  go_returns
  exact ⟨rfl, rfl⟩

set_option maxHeartbeats 400000 in
theorem qraw_at (b : Nat) (n : Int) (l : List UInt8) (x : Int) (w : World) (h : Rd w b l x) : Calls Try.prog 111 #[.pointer (some ⟨b, 0, none⟩), .int .i64 n] w (RdPost b w (.string ⟨(V.rawF l x n).1.toArray⟩) (V.rawF l x n).2.1 (V.rawF l x n).2.2) := by
  have h0 := h.rest
  have h1 := h.err
  have f0 := h.free0
  have f1 := h.free1
  have hm := h.len
  unfold maxLen at hm
  unfold V.rawF
  by_cases hx : x = 0
  · subst hx
    rw [if_neg (by simp)]
    by_cases hn : n < 0
    · rw [if_pos hn]
      go_enter Try.func111, Try.ntmps111
      go_wp2_with fail
      refine (fail_at b 1 w h1 f1).mono ?_
      rintro e w' ⟨rfl, rfl⟩
      go_wp2
      go_ret
      exact ⟨rfl, h.setErr 1, Only.setCell _ _ _ _⟩
    · rw [if_neg hn]
      obtain ⟨n, rfl⟩ := Int.eq_ofNat_of_zero_le (show 0 ≤ n by omega)
      rw [Int.toNat_natCast]
      by_cases hl : (l.length : Int) < (n : Int)
      · rw [if_pos hl]
        have hl2 : l.length < n := by omega
        go_enter Try.func111, Try.ntmps111
        go_wp2_with fail
        refine (fail_at b 3 w h1 f1).mono ?_
        rintro e w' ⟨rfl, rfl⟩
        go_wp2
        go_ret
        exact ⟨rfl, h.setErr 3, Only.setCell _ _ _ _⟩
      · rw [if_neg hl]
        have hl2 : n ≤ l.length := by omega
        go_enter Try.func111, Try.ntmps111
        go_wp2
        go_ret
        refine ⟨congrArg (fun s => Ending.returned (.string s)) (ext_take l n), ?_, ?_⟩
        · rw [ext_drop]; exact h.setRest _ (by have := h.len; simp; omega)
        · exact Only.setCell _ _ _ _
  · rw [if_pos hx]
    have hx' : (x != 0) = true := by simpa using hx
    clear hx
    go_enter Try.func111, Try.ntmps111
    go_wp2
    go_ret
    exact ⟨rfl, h, Only.refl _ _⟩

set_option maxHeartbeats 400000 in
theorem qbyte_at (b : Nat) (l : List UInt8) (x : Int) (w : World) (h : Rd w b l x) : Calls Try.prog 91 #[.pointer (some ⟨b, 0, none⟩)] w (RdPost b w (.int .u8 (V.byteF l x).1.toNat) (V.byteF l x).2.1 (V.byteF l x).2.2) := by
  have hz := V.byteF_zero l x
  have hr := V.byte_raw l x
  generalize V.byteF l x = q at *
  obtain ⟨c, m, y⟩ := q
  by_cases hy : y = 0
  · subst hy
    simp only [if_true] at hr
    have Hr := Lib.hid hr
    clear hr hz
    go_enter Try.func91, Try.ntmps91
    go_wp2_with fail
    refine (qraw_at b 1 l x w h).mono ?_
    rintro e w' ⟨rfl, hr', ho⟩
    rw [Hr.out] at hr' ⊢
    go_wp2
    go_ret
    exact ⟨rfl, hr', ho⟩
  · have Hz : c = 0 := hz hy
    subst Hz
    simp only [if_neg hy] at hr
    have Hr := Lib.hid hr
    clear hr hz
    go_enter Try.func91, Try.ntmps91
    go_wp2_with fail
    refine (qraw_at b 1 l x w h).mono ?_
    rintro e w' ⟨rfl, hr', ho⟩
    rw [Hr.out] at hr' ⊢
    go_wp2
    go_ret
    exact ⟨rfl, hr', ho⟩

def QRel (b : Nat) (l : List UInt8) (x : Int) (w : World) (n s : Value) (wr : World) : Prop :=
  ∃ f k m l' x', f + k = 10 ∧ 0 < f ∧ m < 2 ^ (7 * k) ∧ n = .int .u64 (m : Nat) ∧ s = .int .i64 (k : Nat) ∧ Rd wr b l' x' ∧ Only b w wr ∧ V.uintF l x = V.uintL f k m l' x'

theorem add_step (m cn k : Nat) (hm : m < 2 ^ (7 * k)) (hc : cn < 256) (hk : k ≤ 9) (h9 : k = 9 → cn ≤ 1) : m + cn % 128 * 2 ^ (7 * k) < 18446744073709551616 := by
  by_cases e : k = 9
  · subst e
    have := h9 rfl
    have : cn % 128 * 2 ^ (7 * 9) ≤ 1 * 2 ^ (7 * 9) := Nat.mul_le_mul_right _ (by omega)
    simp only [Nat.reduceMul, Nat.reducePow] at *
    omega
  · have h1 : 2 ^ (7 * k) ≤ 2 ^ 56 := Nat.pow_le_pow_right (by omega) (by omega)
    have h2 : cn % 128 * 2 ^ (7 * k) ≤ 127 * 2 ^ 56 := Nat.mul_le_mul (by omega) h1
    simp only [Nat.reduceMul, Nat.reducePow] at *
    omega

theorem add_num (m cn k : Nat) (hm : m < 2 ^ (7 * k)) (hc : cn < 256) (hk : k ≤ 9) (h9 : k = 9 → cn ≤ 1) : IntKind.u64.wrap ((m : Int) + IntKind.u64.wrap ((cn : Int) % 128 * 2 ^ (7 * k))) = ((m + cn % 128 * 2 ^ (7 * k) : Nat) : Int) := by
  have hb := add_step m cn k hm hc hk h9
  have e3 : ((cn : Int) % 128) * 2 ^ (7 * k) = ((cn % 128 * 2 ^ (7 * k) : Nat) : Int) := by rw [Int.natCast_mul, Int.natCast_pow]; rfl
  rw [e3]
  generalize cn % 128 * 2 ^ (7 * k) = p at *
  rw [IntKind.wrap_u64, IntKind.wrap_u64]
  omega

set_option maxRecDepth 100000 in
set_option maxHeartbeats 400000 in
theorem quint_at (b : Nat) (l : List UInt8) (x : Int) (w : World) (h : Rd w b l x) : Calls Try.prog 68 #[.pointer (some ⟨b, 0, none⟩)] w (RdPost b w (.int .u64 (V.uintF l x).1) (V.uintF l x).2.1 (V.uintF l x).2.2) := by
  go_enter Try.func68, Try.ntmps68
  go_wp2_with fail
  go_loopw [3, 4] (fun n s wr => QRel b l x w n s wr) (fun _ s _ => 10 - (intOf s).toNat)
  case atStart => exact ⟨10, 0, 0, l, x, rfl, by omega, by simp, rfl, rfl, h, Only.refl _ _, rfl⟩
  case round =>
    obtain ⟨f, k, m, l', x', hfk, hf, hm, rfl, rfl, hr, ho, hu⟩ := hrel
    have Hu := Lib.hid hu
    have Hm := Lib.hid hm
    have Hfk := Lib.hid hfk
    have hk9 : k ≤ 9 := by omega
    obtain ⟨g, rfl⟩ : ∃ g, f = g + 1 := ⟨f - 1, by omega⟩
    clear hu hm hfk
    go_wp2_with fail
    refine (qbyte_at b l' x' _ hr).mono ?_
    rintro e w' ⟨rfl, hr', ho'⟩
    have hc : (V.byteF l' x').1.toNat < 256 := by have := (V.byteF l' x').1.toNat_lt; omega
    generalize hq : V.byteF l' x' = q at *
    have Hq := Lib.hid hq
    clear hq
    obtain ⟨c, l2, y⟩ := q
    dsimp only at *
    generalize hcn : c.toNat = cn at *
    have Hcn := Lib.hid hcn
    clear hcn
    have hE := hr'.err
    have hF := hr'.free1
    by_cases hy : y = 0
    · subst hy
      have fin : (0 < k ∧ cn = 0) ∨ (k = 9 ∧ 1 < cn) → ∀ v, v = Value.int .u64 0 → RdPost b w (.int .u64 (V.uintF l x).1) (V.uintF l x).2.1 (V.uintF l x).2.2 (Ending.returned v) (w'.setCell ⟨b, 1, none⟩ (.int .i64 4)) := by
        intro hbad v hv
        have hL : V.uintF l x = (0, l2, 4) := by
          rw [Hu.out, V.uintL, Hq.out, if_neg (by simp), if_pos (by have := Hcn.out; dsimp only; omega)]
        subst hv
        exact ⟨by rw [hL]; rfl, by rw [hL]; exact hr'.setErr 4, (ho.trans ho').trans (Only.setCell _ _ _ _)⟩
      have Fin := Lib.hid fin
      clear fin
      by_cases hb2 : k = 9 ∧ 1 < cn
      · have Hb2 := Lib.hid hb2
        have h1 : ((k : Int) == 9) = true := by simp; omega
        have h2 : 1 < cn := hb2.2
        clear hb2
        go_wp2_with fail
        refine (fail_at b 4 w' hE hF).mono ?_
        rintro e w2 ⟨rfl, rfl⟩
        go_wp2
        go_ret
        exact Fin.out (.inr Hb2.out) _ rfl
      · have Hor := Lib.hid (add_num m cn k Hm.out hc hk9 (by omega))
        have h9 : ((k : Int) == 9) = true ∧ cn ≤ 1 ∨ ((k : Int) == 9) = false := by
          by_cases e : k = 9
          · exact .inl ⟨by simp; omega, by omega⟩
          · exact .inr (by simp; omega)
        by_cases h128 : cn < 128
        · by_cases hb1 : 0 < k ∧ cn = 0
          · have Hb1 := Lib.hid hb1
            have hc1 : ((cn : Int) == 0) = true := by simp; omega
            obtain ⟨hp, _⟩ := hb1
            clear hb2
            rcases h9 with ⟨h9, h91⟩ | h9
            all_goals
              go_wp2_with fail
              refine (fail_at b 4 w' hE hF).mono ?_
              rintro e w2 ⟨rfl, rfl⟩
              go_wp2
              go_ret
              exact Fin.out (.inl Hb1.out) _ rfl
          · have fin2 : ∀ v, v = Value.int .u64 ((m + cn % 128 * 2 ^ (7 * k) : Nat) : Int) → RdPost b w (.int .u64 (V.uintF l x).1) (V.uintF l x).2.1 (V.uintF l x).2.2 (Ending.returned v) w' := by
              intro v hv
              have hL : V.uintF l x = (m + cn % 128 * 2 ^ (7 * k), l2, 0) := by
                rw [Hu.out, V.uintL, Hq.out, if_neg (by simp), if_neg (by have := Hcn.out; dsimp only; omega), if_pos (by have := Hcn.out; dsimp only; omega), Hcn.out]
              subst hv
              exact ⟨by rw [hL], by rw [hL]; exact hr', ho.trans ho'⟩
            have Fin2 := Lib.hid fin2
            clear fin2 Fin
            by_cases h0 : 0 < k
            · have hcn0 : ((cn : Int) == 0) = false := by simp; omega
              clear hb1 hb2
              rcases h9 with ⟨h9, h91⟩ | h9
              all_goals
                go_wp2
                go_ret
                exact Fin2.out _ (congrArg (Value.int .u64) Hor.out)
            · clear hb1 hb2
              rcases h9 with ⟨h9, h91⟩ | h9
              all_goals
                go_wp2
                go_ret
                exact Fin2.out _ (congrArg (Value.int .u64) Hor.out)
        · have hne : ((k : Int) == 9) = false := by simp; omega
          have hrel : QRel b l x w (Value.int .u64 ((m + cn % 128 * 2 ^ (7 * k) : Nat) : Int)) (.int .i64 ((k + 1 : Nat) : Int)) w' := by
            have hfk := Hfk.out
            refine ⟨g, k + 1, m + cn % 128 * 2 ^ (7 * k), l2, 0, by omega, by omega, ?_, rfl, rfl, hr', ho.trans ho', ?_⟩
            · have h3 := Hm.out
              have h4 : cn % 128 * 2 ^ (7 * k) ≤ 127 * 2 ^ (7 * k) := Nat.mul_le_mul_right _ (by omega)
              rw [show 7 * (k + 1) = 7 * k + 7 from by omega, Nat.pow_add]
              omega
            · rw [Hu.out, V.uintL, Hq.out, if_neg (by simp), if_neg (by have := Hcn.out; dsimp only; omega), if_neg (by have := Hcn.out; dsimp only; omega), Hcn.out]
          have Hrel := Lib.hid hrel
          clear hrel Fin hb2 h9
          go_wp2
          go_roundw
          case rel => rw [Hor.out]; exact Hrel.out
          case measure => simp [intOf]; omega
    · have hy' : (y != 0) = true := by simpa using hy
      clear hy
      go_wp2
      go_ret
      have hL : V.uintF l x = (0, l2, y) := by
        rw [Hu.out, V.uintL, Hq.out, if_pos (by simpa using hy')]
      exact ⟨by rw [hL]; rfl, by rw [hL]; exact hr', ho.trans ho'⟩

end Go.Proofs.Ytfikdeobejhblaa

/- Proved: the document's own bytes of numbers and texts (package signpostref01). Condition: numbers fit in 64 bits, texts have at most 10^12 bytes. -/
namespace Go.Proofs.Ytfikdeobejhblaa
open Go.RowKit

theorem conv_at (w : World) (g : Nat) (c : Int) (h : w.cell? ⟨g, 0, none⟩ = some (.int .u8 c)) : (convert 87 9 (.slice (some ⟨g, 0, none⟩) 1 1)).run Try.prog w = .ok (.string ⟨#[UInt8.ofNat c.toNat]⟩) w := by
  refine run_convert_bytes_arg w 87 5 Try.underlying87 Try.underlying5 g 0 1 1 [c] rfl ?_ 9 Try.underlying9
  intro i hi
  obtain rfl : i = 0 := by omega
  exact h

theorem bcell {W w1 : World} (hb : Below W.heap.size W w1) : ∀ b o, b < W.heap.size → w1.cell? ⟨b, o, none⟩ = W.cell? ⟨b, o, none⟩ := fun b o h => hb.cell (p := ⟨b, o, none⟩) h

def NumPost (n : Nat) (w : World) (e : Ending) (w' : World) : Prop := e = .returned (.string ⟨(V.enc n).toArray⟩) ∧ Below w.heap.size w w'

set_option maxRecDepth 100000 in
set_option maxHeartbeats 1000000 in
theorem number_at (n : Nat) : ∀ (w : World), n < 2 ^ 64 → Calls Try.prog 71 #[.int .u64 n] w (NumPost n w) := by
  induction n using Nat.strongRecOn with
  | ind n ih =>
    intro w hn
    by_cases h : n < 128
    · have hcv := conv_one (n : Int) w
      have He := Lib.hid (V.enc_lt n h)
      clear ih hn
      go_enter Try.func71, Try.ntmps71
      go_wp2
      go_ret
      exact ⟨by rw [He.out]; rfl, (Below.refl _ _).alloc (Nat.le_refl _) _⟩
    · obtain ⟨r, hr⟩ : ∃ r : Nat, r = n % 128 := ⟨_, rfl⟩
      obtain ⟨c, hc⟩ : ∃ c : Nat, c = n % 128 + 128 := ⟨_, rfl⟩
      obtain ⟨m, hm⟩ : ∃ m : Nat, m = n / 128 := ⟨_, rfl⟩
      have He : Hid (V.enc n = UInt8.ofNat c :: V.enc m) := by rw [hc, hm]; exact V.enc_ge n h
      have IH := Lib.hid (fun w => ih m (by omega) w (by omega))
      have hw0 : (n : Int).tmod 128 = (r : Int) := by rw [hr, Int.tmod_eq_emod_of_nonneg (by omega)]; omega
      have hw1 : IntKind.u8.wrap (r : Int) = (r : Int) := by rw [IntKind.wrap_u8']; omega
      have hw2 : IntKind.u8.wrap ((r : Int) + 128) = (c : Int) := by rw [IntKind.wrap_u8']; omega
      have hw3 : IntKind.u64.wrap ((n : Int) / 128) = (m : Int) := by rw [IntKind.wrap_u64]; omega
      have hcv : ∀ (w : World) (g : Nat), w.cell? ⟨g, 0, none⟩ = some (.int .u8 (c : Int)) → (convert 87 9 (.slice (some ⟨g, 0, none⟩) 1 1)).run Try.prog w = .ok (.string ⟨#[UInt8.ofNat c]⟩) w := fun w g h => conv_at w g c h
      have hge : 128 ≤ n := by omega
      have Hlen := Lib.hid (V.enc_len10 m (by omega))
      have hlm : (V.enc m).length ≤ 10 := Hlen.out
      clear ih hn h hr hc hm
      go_enter Try.func71, Try.ntmps71
      go_wp2_with fail
      go_region_with (go_at_call 71; refine (IH.out _).mono ?_; rintro e w1 ⟨rfl, b1⟩; have hk := bcell b1)
      all_goals
        clear hk
        go_wp2
        go_ret
        refine ⟨?_, ?_⟩
        · rw [He.out]
          exact congrArg (fun x => Ending.returned (Value.string x)) (app_list [UInt8.ofNat c] (V.enc m))
        · first
            | exact bMore (((Below.refl w.heap.size w).alloc (Nat.le_refl _) _).drew) b1 (Nat.le_refl _)
            | exact (bMore ((Below.refl w.heap.size w).drew) b1 (Nat.le_refl _)).alloc b1.size _

end Go.Proofs.Ytfikdeobejhblaa
