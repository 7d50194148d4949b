/- Proved: NewReader makes a reader in new memory; the laws' first line, awake, answers true and turns nothing that was there. Condition: none but that a text's length fits. -/
import Derived.Test.YtppfejkkfgjikaaB
import Derived.Test.YtppfejkkfgjikaaD
namespace Go.Proofs.Ytppfejkkfgjikaa
open Go.RowKit

def NewRd (w : World) (l : List UInt8) : World := w.alloc (.cells #[.string ⟨l.toArray⟩, .int .i64 0] 61)
theorem NewRd.rd (w : World) (l : List UInt8) (hl : l.length ≤ maxLen) : Rd (NewRd w l) w.heap.size l 0 := by
  unfold NewRd
  exact ⟨by go_simp, by go_simp, by go_simp, by go_simp, hl⟩
theorem NewRd.below (w : World) (l : List UInt8) : Below w.heap.size w (NewRd w l) := (Below.refl _ _).alloc (Nat.le_refl _) _
theorem NewRd.size (w : World) (l : List UInt8) : (NewRd w l).heap.size = w.heap.size + 1 := by unfold NewRd; simp

set_option maxHeartbeats 400000 in
theorem newreader_at (l : List UInt8) (w : World) : Calls Try.prog 20 #[.string ⟨l.toArray⟩] w fun e w' => e = .returned (.pointer (some ⟨w.heap.size, 0, none⟩)) ∧ NewRd w l = w' := by
  go_enter Try.func20, Try.ntmps20
  go_wp2
  go_ret
  exact ⟨rfl, rfl⟩

def ReaderPost (w : World) (l : List UInt8) (e : Ending) (w' : World) : Prop := ∃ b, e = .returned (.pointer (some ⟨b, 0, none⟩)) ∧ b = w.heap.size ∧ Rd w' b l 0 ∧ Below w.heap.size w w'
theorem newreader (l : List UInt8) (w : World) (hl : l.length ≤ maxLen) : Calls Try.prog 20 #[.string ⟨l.toArray⟩] w (ReaderPost w l) := by
  refine (newreader_at l w).mono ?_
  rintro e w' ⟨rfl, rfl⟩
  exact ⟨w.heap.size, rfl, rfl, NewRd.rd w l hl, NewRd.below w l⟩

def NewWr (w : World) : World := w.alloc (.cells #[.string ⟨#[]⟩, .string ⟨#[]⟩, .string ⟨#[]⟩, .string ⟨#[]⟩, .string ⟨#[]⟩] 26)
theorem NewWr.wr (w : World) : Wr (NewWr w) w.heap.size [] := by
  unfold NewWr
  refine ⟨fun _ => [], ⟨?_, ?_⟩, rfl⟩
  · intro i hi
    rcases (show i = 0 ∨ i = 1 ∨ i = 2 ∨ i = 3 ∨ i = 4 by omega) with rfl | rfl | rfl | rfl | rfl <;> go_simp
  · intro i hi
    rcases (show i = 0 ∨ i = 1 ∨ i = 2 ∨ i = 3 ∨ i = 4 by omega) with rfl | rfl | rfl | rfl | rfl <;> go_simp

theorem awake_bytes : (([] ++ V.enc 300) ++ V.enc (V.zig (-1))) ++ (V.enc ([97, 98] : List UInt8).length ++ [97, 98]) = [172, 2, 1, 2, 97, 98] := by
  rw [V.enc_ge 300 (by omega), V.enc_lt (300 / 128) (by omega), V.enc_lt (V.zig (-1)) (by decide), V.enc_lt _ (by decide)]
  decide

theorem Rd.below {w w' : World} {b : Nat} {l : List UInt8} {x : Int} (h : Rd w b l x) (k : Below w.heap.size w w') : Rd w' b l x :=
  ⟨(k.cell h.lt).trans h.rest, (k.cell h.lt).trans h.err, (k.frozen h.lt).trans h.free0, (k.frozen h.lt).trans h.free1, h.len⟩

theorem NewWr.below (w : World) : Below w.heap.size w (NewWr w) := (Below.refl _ _).alloc (Nat.le_refl _) _
theorem NewWr.size (w : World) : (NewWr w).heap.size = w.heap.size + 1 := by unfold NewWr; simp

/-- What began at w: a step that turns one block of the call's own. -/
theorem bOnly {N : Nat} {u v w : World} {b : Nat} (h : Below N u v) (k : Only b v w) (hb : N ≤ b) (hN : N ≤ u.heap.size) : Below N u w := Only.below h k hb (Nat.le_trans hN h.size)
theorem bMore {N : Nat} {u v w : World} (h : Below N u v) (k : Below v.heap.size v w) (hN : N ≤ u.heap.size) : Below N u w := h.trans (k.mono (Nat.le_trans hN h.size))

set_option maxHeartbeats 1000000 in
theorem awake_at (w : World) : Calls Try.prog 10 #[] w fun e w' => e = .returned (.bool true) ∧ Below w.heap.size w w' := by
  have h0 := NewWr.wr w
  have b0 := NewWr.below w
  have HB := Lib.hid awake_bytes
  go_enter Try.func10, Try.ntmps10
  go_wp2_with fail
  refine (wuint_at w.heap.size 300 [] (NewWr w) (by omega) h0 (by simp)).mono ?_
  rintro e w1 ⟨rfl, h1, o1⟩
  have b1 := bOnly b0 o1 (Nat.le_refl _) (Nat.le_refl _)
  clear h0 o1 b0
  go_wp2_with fail
  refine (wint_at w.heap.size (-1) _ w1 (by decide) h1 (by have := V.enc_len10 300 (by omega); simp; omega)).mono ?_
  rintro e w2 ⟨rfl, h2, o2⟩
  have b2 := bOnly b1 o2 (Nat.le_refl _) (Nat.le_refl _)
  clear h1 o2 b1
  go_wp2_with fail
  refine (wtext_at w.heap.size [97, 98] _ w2 h2 (by have := V.enc_len10 300 (by omega); have := V.enc_len10 (V.zig (-1)) (by decide); simp; omega)).mono ?_
  rintro e w3 ⟨rfl, h3, o3⟩
  have b3 := bOnly b2 o3 (Nat.le_refl _) (Nat.le_refl _)
  rw [HB.out] at h3
  clear h2 o3 b2
  go_wp2_with fail
  refine (wstring_at w.heap.size _ w3 h3 (by simp)).mono ?_
  rintro e w4 ⟨rfl, rfl⟩
  clear h3
  go_wp2_with fail
  refine (newreader _ w3 (by decide)).mono ?_
  rintro e w4 ⟨b, rfl, hb, h4, b4⟩
  have b5 := bMore b3 b4 (Nat.le_refl _)
  have hb2 : w.heap.size ≤ b := by have := b3.size; omega
  have HF1 := Lib.hid (show V.uintF [172, 2, 1, 2, 97, 98] 0 = (300, [1, 2, 97, 98], 0) by decide)
  have HF2 := Lib.hid (show V.intF [1, 2, 97, 98] 0 = (-1, [2, 97, 98], 0) by decide)
  have HF3 := Lib.hid (show V.textF [2, 97, 98] 0 2 = ([97, 98], [], 0) by decide)
  have HF4 := Lib.hid (show V.uintF [128, 0] 0 = (0, [], 4) by decide)
  have HF5 := Lib.hid (show V.rawF [97] 0 2 = ([], [97], 3) by decide)
  clear hb b3 b4
  go_wp2_with fail
  refine (uint_at b _ 0 w4 h4).mono ?_
  rw [HF1.out]
  rintro e w5 ⟨rfl, h5, o5⟩
  have b6 := bOnly b5 o5 hb2 (Nat.le_refl _)
  clear h4 o5 b5
  go_wp2_with fail
  refine (int_at b _ 0 w5 h5).mono ?_
  rw [HF2.out]
  rintro e w6 ⟨rfl, h6, o6⟩
  have b7 := bOnly b6 o6 hb2 (Nat.le_refl _)
  clear h5 o6 b6
  go_wp2_with fail
  refine (text_at b _ 0 2 w6 h6 (by decide)).mono ?_
  rw [HF3.out]
  rintro e w7 ⟨rfl, h7, o7⟩
  have b8 := bOnly b7 o7 hb2 (Nat.le_refl _)
  clear h6 o7 b7
  go_wp2_with fail
  refine (done_at b _ 0 w7 h7).mono ?_
  rintro e w8 ⟨rfl, rfl⟩
  clear h7 hb2
  go_wp2_with fail
  refine (newreader [128, 0] w7 (by decide)).mono ?_
  rintro e w8 ⟨c, rfl, hc, h8, b9⟩
  have b10 := bMore b8 b9 (Nat.le_refl _)
  have hc2 : w.heap.size ≤ c := by have := b8.size; omega
  clear hc b8 b9
  go_wp2_with fail
  refine (uint_at c _ 0 w8 h8).mono ?_
  rw [HF4.out]
  rintro e w9 ⟨rfl, h9, o9⟩
  have b11 := bOnly b10 o9 hc2 (Nat.le_refl _)
  clear h8 o9 b10
  go_wp2_with fail
  refine (newreader [97] w9 (by decide)).mono ?_
  rintro e w10 ⟨d, rfl, hd, h10, b12⟩
  have b13 := bMore b11 b12 (Nat.le_refl _)
  have h9' := h9.below b12
  have hcd : c ≠ d := by have := h9.lt; omega
  have hd2 : w.heap.size ≤ d := by have := b11.size; omega
  clear hd b11 b12 h9
  go_wp2_with fail
  refine (raw_at d 2 _ 0 w10 h10).mono ?_
  rw [HF5.out]
  rintro e w11 ⟨rfl, h11, o11⟩
  have b14 := bOnly b13 o11 hd2 (Nat.le_refl _)
  have h9'' := h9'.other o11 hcd h9'.lt
  clear h10 o11 b13 h9'
  go_wp2_with fail
  refine (err_rd c _ _ w11 h9'').mono ?_
  rintro e w12 ⟨rfl, rfl⟩
  go_wp2_with fail
  refine (err_rd d _ _ w11 h11).mono ?_
  rintro e w12 ⟨rfl, rfl⟩
  go_wp2_with fail
  refine (left_at d _ w11 h11.rest).mono ?_
  rintro e w12 ⟨rfl, rfl⟩
  go_wp2_with fail
  refine (newreader [97] w11 (by decide)).mono ?_
  rintro e w12 ⟨f, rfl, hf, h12, b15⟩
  have b16 := bMore b14 b15 (Nat.le_refl _)
  clear hf b14 b15
  go_wp2_with fail
  refine (done_at f _ 0 w12 h12).mono ?_
  rintro e w13 ⟨rfl, rfl⟩
  go_wp2
  go_ret
  exact ⟨rfl, b16⟩
end Go.Proofs.Ytppfejkkfgjikaa
