/- Proved: what the receiver's Cursor answers. Condition: the receiver lies in memory. -/
import Derived.Test.YtifcibmpeolmdaaDoorPf
namespace Go.Proofs.YtifcibmpeolmdaaDoor
open Go.RowKit

def NewWr (w : World) : World := w.alloc (.cells #[.string ⟨#[]⟩, .string ⟨#[]⟩, .string ⟨#[]⟩, .string ⟨#[]⟩, .string ⟨#[]⟩] 78)
theorem NewWr.wr (w : World) : Wr (NewWr w) w.heap.size [] := by
  unfold NewWr
  refine ⟨fun _ => [], ⟨?_, ?_⟩, rfl⟩
  · intro i hi
    rcases (show i = 0 ∨ i = 1 ∨ i = 2 ∨ i = 3 ∨ i = 4 by omega) with rfl | rfl | rfl | rfl | rfl <;> go_simp
  · intro i hi
    rcases (show i = 0 ∨ i = 1 ∨ i = 2 ∨ i = 3 ∨ i = 4 by omega) with rfl | rfl | rfl | rfl | rfl <;> go_simp

theorem NewWr.below (w : World) : Below w.heap.size w (NewWr w) := (Below.refl _ _).alloc (Nat.le_refl _) _
theorem NewWr.size (w : World) : (NewWr w).heap.size = w.heap.size + 1 := by unfold NewWr; simp


theorem Good.nums {r : Rv} (h : Good r) : ∃ s1 s2 : Nat, r.ses = s1 ∧ r.ep = s2 ∧ s1 < 4294967296 ∧ s2 < 4294967296 ∧ r.head = V.enc s1 ++ V.enc s2 ++ V.enc r.c.length := by
  have h1 := h.ses; have h2 := h.ep
  refine ⟨r.ses.toNat, r.ep.toNat, by omega, by omega, by omega, by omega, rfl⟩
def CuRel (r : Rv) (g : Nat) (y : World) (iv : Value) (wr : World) : Prop := ∃ k : Nat, iv = .int .i64 k ∧ k ≤ r.c.length ∧ Wr wr g (r.head ++ r.body k) ∧ Turn [g] y wr
section
variable {b bm bc : Nat} {m : Option Nat} {r : Rv} {w : World}
set_option maxRecDepth 100000 in
set_option maxHeartbeats 1000000 in
theorem vcursor_at (h : S w b bm bc m r) : Calls Tryd.prog 23 #[.pointer (some ⟨b, 0, none⟩)] w fun e w' => e = .returned (.string ⟨r.cursor.toArray⟩) ∧ Keep w w' := by
  have k1 : Keep w (NewWr w) := NewWr.below w
  have h0 := NewWr.wr w
  have hsz := NewWr.size w
  have HS := Lib.hid (fun v (q : Turn [w.heap.size] (NewWr w) v) => (h.keep k1).turn q (by simp; have := h.map.tab.pos; omega) (by simp; have := h.lt; omega) (by simp; have := h.ltm; omega) (by simp; have := h.ltc; omega) (fun x hx => by simp; have := h.cnt.lt x hx; omega))
  have HE := Lib.hid (fun v (q : Turn [w.heap.size] (NewWr w) v) => (Turn.made k1 q (fun b hb => by simp at hb; omega) : Keep w v))
  have HG := Lib.hid h.good
  obtain ⟨s1, s2, e1, e2, l1, l2, eh⟩ := h.good.nums
  have hfew := h.good.few
  have w1 : IntKind.u64.wrap (s1 : Int) = (s1 : Int) := by rw [IntKind.wrap_u64]; omega
  have w2 : IntKind.u64.wrap (s2 : Int) = (s2 : Int) := by rw [IntKind.wrap_u64]; omega
  have HH := Lib.hid eh
  have HI := Lib.hid (And.intro e1 e2)
  have c0 : (NewWr w).cell? ⟨b, 0, none⟩ = some (.int .i64 s1) := by rw [← e1]; exact (h.keep k1).ses
  unfold NewWr at c0
  obtain ⟨N, hN⟩ : ∃ N, r.c.length = N := ⟨_, rfl⟩
  have HN := Lib.hid hN
  rw [hN] at hfew
  have w3 : IntKind.u64.wrap (N : Int) = (N : Int) := by rw [IntKind.wrap_u64]; omega
  have L1 := V.enc_len10 s1 (by omega)
  have L2 := V.enc_len10 s2 (by omega)
  have L3 := V.enc_len10 N (by omega)
  have HL := Lib.hid (And.intro L1 (And.intro L2 L3))
  have H0 := Lib.hid h0
  clear h k1 h0 hsz e1 e2 eh hN L1 L2 L3
  go_enter Tryd.func23, Tryd.ntmps23
  go_wp2_with fail
  refine (wuint_at w.heap.size s1 [] (NewWr w) (by omega) H0.out (by simp)).mono ?_
  rintro e v1 ⟨rfl, hw1, o1⟩
  have T1 := Lib.hid (Turn.only (K := [w.heap.size]) o1 (by simp))
  have H1 := Lib.hid hw1
  have c1 : v1.cell? ⟨b, 1, none⟩ = some (.int .i64 s2) := by rw [← HI.out.2]; exact (HS.out v1 T1.out).ep
  clear hw1 o1 c0 H0
  go_wp2_with fail
  refine (wuint_at w.heap.size s2 _ v1 (by omega) H1.out (by have := HL.out; simp; omega)).mono ?_
  rintro e v2 ⟨rfl, hw2, o2⟩
  have T2 := Lib.hid (T1.out.trans (Turn.only (K := [w.heap.size]) o2 (by simp)))
  have H2 := Lib.hid hw2
  have c2 : v2.cell? ⟨b, 2, none⟩ = some (.slice (some ⟨bc, 0, none⟩) N N) := by rw [← HN.out]; exact (HS.out v2 T2.out).list
  clear hw2 o2 c1 H1 T1
  go_wp2_with fail
  refine (wuint_at w.heap.size N _ v2 (by omega) H2.out (by have := HL.out; simp; omega)).mono ?_
  rintro e v3 ⟨rfl, hw3, o3⟩
  have T3 := Lib.hid (T2.out.trans (Turn.only (K := [w.heap.size]) o3 (by simp)))
  have H3 := Lib.hid hw3
  clear c2
  have c2 : v3.cell? ⟨b, 2, none⟩ = some (.slice (some ⟨bc, 0, none⟩) N N) := by rw [← HN.out]; exact (HS.out v3 T3.out).list
  clear hw3 o3 H2 T2
  go_wp2_with fail
  go_loopw [32] (fun iv wr => CuRel r w.heap.size (NewWr w) iv wr) (fun iv _ => 300 - (intOf iv).toNat)
  case atStart => exact ⟨0, rfl, Nat.zero_le _, by rw [HH.out, HN.out]; simpa [Rv.body] using H3.out, T3.out⟩
  case round =>
    obtain ⟨k, rfl, hk, hw, ht⟩ := hrel
    rw [HN.out] at hk
    have HW := Lib.hid hw
    have HT := Lib.hid ht
    have hS := HS.out _ ht
    have hbl := body_len HG.out k (by omega)
    have hhl := head_len HG.out
    have HBL := Lib.hid (show (r.head ++ r.body k).length ≤ 300000 by rw [List.length_append]; omega)
    clear hw ht c2 hbl hhl
    by_cases hlt : k < N
    · have c5 := hS.text k (by rw [HN.out]; exact hlt)
      have c3 := hS.ptr
      have HC := Lib.hid (has_at bm r.l k wr hS.map)
      have hE : hasB r.l (k : Int) = r.l.getD k false := by unfold hasB; rw [decide_eq_true (by omega)]; rfl
      rw [hE] at HC
      have HP := Lib.hid (show r.body (k + 1) = r.body k ++ r.part k from rfl)
      have HPt := Lib.hid (show r.part k = if r.l.getD k false then V.enc k ++ V.tx (r.c.getD k []) else [] from rfl)
      have HTx := Lib.hid (HG.out.text k)
      have w4 : IntKind.u64.wrap (k : Int) = (k : Int) := by rw [IntKind.wrap_u64]; omega
      clear hS hE
      generalize r.c.getD k [] = tx at *
      generalize r.l.getD k false = B at *
      cases B
      · go_wp2_with fail
        refine HC.out.mono ?_
        rintro e u1 ⟨rfl, q1⟩
        have H4 := Lib.hid (And.intro (HW.out.below q1) (HT.out.thenKeep q1))
        clear c5 c3 HC q1
        go_wp2
        go_roundw
        case rel => exact ⟨k + 1, by go_num, by rw [HN.out]; omega, by rw [HP.out, HPt.out, if_neg (by simp), List.append_nil]; exact H4.out.1, H4.out.2⟩
        case measure => simp [intOf]; omega
      · go_wp2_with fail
        refine HC.out.mono ?_
        rintro e u1 ⟨rfl, q1⟩
        have H4 := Lib.hid (And.intro (HW.out.below q1) (HT.out.thenKeep q1))
        clear c5 c3 HC q1
        go_wp2_with fail
        refine (wuint_at w.heap.size k _ u1 (by omega) H4.out.1 (by have := HBL.out; omega)).mono ?_
        rintro e u2 ⟨rfl, hw2, o2⟩
        have H5 := Lib.hid (And.intro hw2 (H4.out.2.trans (Turn.only (K := [w.heap.size]) o2 (by simp))))
        clear hw2 o2
        go_wp2_with fail
        refine (wtext_at w.heap.size tx _ u2 H5.out.1 (by have := HBL.out; have := HTx.out; have := V.enc_len10 k (by omega); rw [List.length_append]; omega)).mono ?_
        rintro e u3 ⟨rfl, hw3, o3⟩
        have H6 := Lib.hid (And.intro hw3 (H5.out.2.trans (Turn.only (K := [w.heap.size]) o3 (by simp))))
        clear hw3 o3
        go_wp2
        go_roundw
        case rel => exact ⟨k + 1, by go_num, by rw [HN.out]; omega, by rw [HP.out, HPt.out]; simpa [V.tx] using H6.out.1, H6.out.2⟩
        case measure => simp [intOf]; omega
    · obtain rfl : k = N := by omega
      have c2 := hS.list
      rw [HN.out] at c2
      have HCu := Lib.hid (show r.cursor = r.head ++ (r.body k ++ V.enc k) by unfold Rv.cursor; rw [HN.out, List.append_assoc])
      clear hS
      go_wp2_with fail
      refine (wuint_at w.heap.size k _ wr (by omega) HW.out (by have := HBL.out; omega)).mono ?_
      rintro e u2 ⟨rfl, hw2, o2⟩
      have H5 := Lib.hid (And.intro hw2 (HT.out.trans (Turn.only (K := [w.heap.size]) o2 (by simp))))
      clear hw2 o2 c2
      go_wp2_with fail
      refine (wstring_at w.heap.size _ u2 H5.out.1 (by have := HBL.out; have := V.enc_len10 k (by omega); rw [List.length_append]; omega)).mono ?_
      rintro e u3 ⟨rfl, rfl⟩
      go_wp2
      go_ret
      exact ⟨by rw [HCu.out]; rfl, HE.out _ H5.out.2⟩
end
end Go.Proofs.YtifcibmpeolmdaaDoor
