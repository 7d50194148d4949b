/- Proved: what the writer's calls Raw, String and Byte of package varint do to memory and answer. Condition: the writer's five cells are known (Wr) and hold fewer than 10^12 bytes, or the pointer is nil. -/
import Derived.Test.YtppfejkkfgjikaaA
import Derived.Laws.BitsAllLaws
import Derived.Laws.BytesArg
import Derived.IntWalk
import Derived.OpenShut
import Derived.Deep.QuietTactic
import Derived.BigQuiet
import Derived.BigRegion
import Derived.Handy
namespace Go.Proofs.Ytppfejkkfgjikaa
open Go.RowKit

theorem room_num (k : Nat) (hk : k ≤ 4) : wrap64 (64 * 2 ^ (6 * k)) = 64 * 2 ^ (6 * k) := by
  rcases (show k = 0 ∨ k = 1 ∨ k = 2 ∨ k = 3 ∨ k = 4 by omega) with rfl | rfl | rfl | rfl | rfl <;> decide +kernel

set_option maxHeartbeats 400000 in
theorem room_at (k : Nat) (w : World) (hk : k ≤ 4) : Calls Try.prog 34 #[.int .i64 k] w fun e w' => e = .returned (.int .i64 (64 * 2 ^ (6 * k))) ∧ w' = w := by
  go_enter Try.func34, Try.ntmps34
  go_wp2
  go_ret
  exact ⟨congrArg (fun v => Ending.returned (Value.int .i64 v)) (room_num k hk), rfl⟩

set_option maxHeartbeats 400000 in
theorem wraw_nil (s : ByteArray) (w : World) : Calls Try.prog 18 #[.pointer none, .string s] w fun e w' => e = .returned (.tuple #[]) ∧ w = w' := by
  go_enter Try.func18, Try.ntmps18
  go_wp2
  go_returns
  exact ⟨rfl, rfl⟩

theorem conv_one (c : Int) (w : World) : (convert 31 9 (.slice (some ⟨w.heap.size, 0, none⟩) 1 1)).run Try.prog (w.alloc (.cells #[.int .u8 c] 5)) = .ok (.string ⟨#[UInt8.ofNat c.toNat]⟩) (w.alloc (.cells #[.int .u8 c] 5)) := by
  refine run_convert_bytes_arg (w.alloc (.cells #[.int .u8 c] 5)) 31 5 Try.underlying31 Try.underlying5 w.heap.size 0 1 1 [c] rfl ?_ 9 Try.underlying9
  intro i hi
  obtain rfl : i = 0 := by omega
  go_simp

set_option maxHeartbeats 400000 in
theorem wbyte_nil (c : Int) (w : World) : Calls Try.prog 11 #[.pointer none, .int .u8 c] w fun e w' => e = .returned (.tuple #[]) ∧ Below w.heap.size w w' := by
  have hcv := conv_one c w
  go_enter Try.func11, Try.ntmps11
  go_wp2_with fail
  refine (wraw_nil _ _).mono ?_
  rintro e w' ⟨rfl, rfl⟩
  go_wp2
  go_returns
  exact ⟨rfl, (Below.refl _ _).alloc (Nat.le_refl _) _⟩

def joinP (p : Nat → List UInt8) : List UInt8 := p 4 ++ (p 3 ++ (p 2 ++ (p 1 ++ p 0)))
def moveP (k : Nat) (p : Nat → List UInt8) : Nat → List UInt8 := fun i => if i = k + 1 then p (k + 1) ++ p k else if i = k then [] else p i
theorem joinP_move (k : Nat) (p : Nat → List UInt8) (hk : k < 4) : joinP (moveP k p) = joinP p := by
  rcases (show k = 0 ∨ k = 1 ∨ k = 2 ∨ k = 3 by omega) with rfl | rfl | rfl | rfl <;> simp [joinP, moveP]
theorem joinP_len (i : Nat) (p : Nat → List UInt8) (hi : i < 4) : (p i).length + (p (i + 1)).length ≤ (joinP p).length := by
  rcases (show i = 0 ∨ i = 1 ∨ i = 2 ∨ i = 3 by omega) with rfl | rfl | rfl | rfl <;> simp [joinP] <;> omega

structure WrP (w : World) (b : Nat) (p : Nat → List UInt8) : Prop where
  cell : ∀ i, i < 5 → w.cell? ⟨b, i, none⟩ = some (.string ⟨(p i).toArray⟩)
  free : ∀ i, i < 5 → w.frozen? ⟨b, i, none⟩ = false

/-- A writer lies in block b: it has the bytes s. -/
def Wr (w : World) (b : Nat) (s : List UInt8) : Prop := ∃ p, WrP w b p ∧ joinP p = s

theorem app_list (x y : List UInt8) : (⟨x.toArray⟩ ++ ⟨y.toArray⟩ : ByteArray) = ⟨(x ++ y).toArray⟩ := by
  apply ByteArray.ext; simp

theorem WrP.put {w : World} {b : Nat} {p : Nat → List UInt8} (h : WrP w b p) (k : Nat) (hk : k < 5) (v : List UInt8) : WrP (w.setCell ⟨b, k, none⟩ (.string ⟨v.toArray⟩)) b (fun i => if i = k then v else p i) := by
  refine ⟨fun i hi => ?_, fun i hi => by rw [World.frozen?_setCell]; exact h.free i hi⟩
  by_cases e : i = k
  · subst e
    simp only [if_true]
    exact World.cell?_setCell_same _ _ _ (h.cell i hi)
  · simp only [if_neg e]
    rw [World.cell?_setCell_other _ _ _ _ (by intro x; injection x with _ x _; omega)]
    exact h.cell i hi

theorem WrP.drewN {w : World} {b : Nat} {p : Nat → List UInt8} (h : WrP w b p) (n : Nat) : WrP (w.drewN n) b p := ⟨h.cell, h.free⟩
theorem Only.drewN (b n : Nat) (w : World) : Only b w (w.drewN n) := ⟨rfl, rfl, rfl, Nat.le_refl _, fun _ _ _ => rfl⟩
theorem Wr.drewN {w : World} {b : Nat} {t : List UInt8} (h : Wr w b t) (n : Nat) : Wr (w.drewN n) b t := by
  obtain ⟨p, hp, e⟩ := h; exact ⟨p, hp.drewN n, e⟩
theorem Wr.other {w w' : World} {b c : Nat} {t : List UInt8} (h : Wr w b t) (k : Only c w w') (hb : b ≠ c) (hs : b < w.heap.size) : Wr w' b t := by
  obtain ⟨p, hp, e⟩ := h
  exact ⟨p, ⟨fun i hi => (k.cell hs hb).trans (hp.cell i hi), fun i hi => (k.frozen hs hb).trans (hp.free i hi)⟩, e⟩
theorem Wr.lt {w : World} {b : Nat} {t : List UInt8} (h : Wr w b t) : b < w.heap.size := by
  obtain ⟨p, hp, _⟩ := h
  have h0 := hp.cell 0 (by omega)
  by_cases hb : b < w.heap.size
  · exact hb
  · have : w.heap[b]? = none := by simp; omega
    simp [World.cell?, this] at h0

theorem Only.alloc (b : Nat) (w : World) (o : Obj) : Only b w (w.alloc o) :=
  ⟨rfl, rfl, rfl, by simp, fun k hk _ => Below.heap_alloc _ _ _ hk⟩
theorem Wr.kept {w w' : World} {b : Nat} {t : List UInt8} (h : Wr w b t) (k : w'.heap[b]? = w.heap[b]?) : Wr w' b t := by
  obtain ⟨p, hp, e⟩ := h
  exact ⟨p, ⟨fun i hi => (World.cell?_of_block (w := w) (a := ⟨b, i, none⟩) k).trans (hp.cell i hi), fun i hi => (World.frozen?_of_block (w := w) (a := ⟨b, i, none⟩) k).trans (hp.free i hi)⟩, e⟩
theorem Wr.alloc {w : World} {b : Nat} {t : List UInt8} (h : Wr w b t) (o : Obj) : Wr (w.alloc o) b t := h.kept (Below.heap_alloc _ _ _ h.lt)

theorem start_rel (b : Nat) (w : World) (p : Nat → List UInt8) (s : List UInt8) (hp : WrP w b p) : Wr (w.setCell ⟨b, 0, none⟩ (Value.string (⟨(p 0).toArray⟩ ++ ⟨s.toArray⟩))).drew b (joinP p ++ s) ∧ Only b w (w.setCell ⟨b, 0, none⟩ (Value.string (⟨(p 0).toArray⟩ ++ ⟨s.toArray⟩))).drew := by
  rw [app_list]
  exact ⟨⟨_, (hp.put 0 (by omega) (p 0 ++ s)).drewN 1, by simp [joinP]⟩, (Only.setCell b 0 w _).trans (Only.drewN b 1 _)⟩

theorem move_rel (b k n : Nat) (w : World) (p : Nat → List UInt8) (hk : k < 4) (hp : WrP w b p) :
    Wr (((w.drewN n).setCell ⟨b, k + 1, none⟩ (Value.string (⟨(p (k + 1)).toArray⟩ ++ ⟨(p k).toArray⟩))).setCell ⟨b, k, none⟩ (Value.string ⟨#[]⟩)) b (joinP p) ∧
    Only b w (((w.drewN n).setCell ⟨b, k + 1, none⟩ (Value.string (⟨(p (k + 1)).toArray⟩ ++ ⟨(p k).toArray⟩))).setCell ⟨b, k, none⟩ (Value.string ⟨#[]⟩)) := by
  rw [app_list]
  refine ⟨⟨_, (((hp.drewN n).put (k + 1) (by omega) _).put k (by omega) []), ?_⟩, ((Only.drewN b n w).trans (Only.setCell b _ _ _)).trans (Only.setCell b _ _ _)⟩
  rw [← joinP_move k p hk]
  congr 1
  funext i
  unfold moveP
  by_cases e1 : i = k
  · subst e1; simp
  · simp [e1]

def RawRel (b : Nat) (w : World) (t : List UInt8) (i : Value) (wr : World) : Prop := ∃ k : Nat, k ≤ 4 ∧ i = .int .i64 k ∧ Wr wr b t ∧ Only b w wr

set_option maxHeartbeats 400000 in
theorem wraw_at (b : Nat) (s t : List UInt8) (w : World) (h : Wr w b t) (hl : t.length + s.length ≤ 1000000000000) :
    Calls Try.prog 18 #[.pointer (some ⟨b, 0, none⟩), .string ⟨s.toArray⟩] w fun e w' => e = .returned (.tuple #[]) ∧ Wr w' b (t ++ s) ∧ Only b w w' := by
  obtain ⟨p, hp, rfl⟩ := h
  have c0 := hp.cell 0 (by omega)
  have f0 := hp.free 0 (by omega)
  have l0 : (p 0).length + s.length ≤ 9223372036854775807 := by have := joinP_len 0 p (by omega); omega
  go_enter Try.func18, Try.ntmps18
  go_wp2
  go_region
  go_wp2
  go_loopw [4] (fun i wr => RawRel b w (joinP p ++ s) i wr) (fun i _ => 5 - (intOf i).toNat)
  case atStart => exact ⟨0, by omega, rfl, (start_rel b w p s hp).1, (start_rel b w p s hp).2⟩
  case round =>
    clear c0 f0 l0 hp
    obtain ⟨k, hk, rfl, ⟨q, hq, hj⟩, ho⟩ := hrel
    have Hj := Lib.hid hj
    clear hj
    by_cases hk4 : k < 4
    · have ck := hq.cell k (by omega)
      have ck1 := hq.cell (k + 1) (by omega)
      have fk := hq.free k (by omega)
      have fk1 := hq.free (k + 1) (by omega)
      have hk5 : (k : Int) + 1 < 5 := by omega
      by_cases hR : (64 * 2 ^ (6 * k) : Int) ≤ ((q k).length : Int)
      · go_wp2_with fail
        go_quiet ((go_at_call 34; exact Calls.quiet_of_same (room_at k _ (by omega))))
        go_wp2
        have hlk : (q (k + 1)).length + (q k).length ≤ 9223372036854775807 := by have := joinP_len k q hk4; rw [Hj.out, List.length_append] at this; omega
        go_region
        go_wp2
        go_roundw
        case rel => exact ⟨k + 1, by omega, by go_num, Hj.out ▸ (move_rel b k (nq + 1) wr q hk4 hq).1, ho.trans (move_rel b k (nq + 1) wr q hk4 hq).2⟩
        case measure => simp [intOf]; omega
      · go_wp2_with fail
        go_quiet ((go_at_call 34; exact Calls.quiet_of_same (room_at k _ (by omega))))
        go_wp2
        go_returns
        exact ⟨rfl, ⟨q, hq.drewN _, Hj.out⟩, ho.trans (Only.drewN b _ _)⟩
    · have hd : decide ((k : Int) + 1 < 5) = false := by simp; omega
      go_wp2_with fail
      go_quiet (fail)
      go_wp2
      go_returns
      exact ⟨rfl, ⟨q, hq.drewN _, Hj.out⟩, ho.trans (Only.drewN b _ _)⟩

set_option maxHeartbeats 400000 in
theorem wstring_nil (w : World) : Calls Try.prog 19 #[.pointer none] w fun e w' => e = .returned (.string ⟨#[]⟩) ∧ w = w' := by
  go_enter Try.func19, Try.ntmps19
  go_wp2
  go_ret
  exact ⟨rfl, rfl⟩

theorem index5 (x0 x1 x2 x3 x4 : ByteArray) (w : World) :
    (Instr.index 24 (.agg #[.string x0, .string x1, .string x2, .string x3, .string x4]) (.int .i64 0)).run Try.prog w = .ok (.string x0) w ∧
    (Instr.index 24 (.agg #[.string x0, .string x1, .string x2, .string x3, .string x4]) (.int .i64 1)).run Try.prog w = .ok (.string x1) w ∧
    (Instr.index 24 (.agg #[.string x0, .string x1, .string x2, .string x3, .string x4]) (.int .i64 2)).run Try.prog w = .ok (.string x2) w ∧
    (Instr.index 24 (.agg #[.string x0, .string x1, .string x2, .string x3, .string x4]) (.int .i64 3)).run Try.prog w = .ok (.string x3) w ∧
    (Instr.index 24 (.agg #[.string x0, .string x1, .string x2, .string x3, .string x4]) (.int .i64 4)).run Try.prog w = .ok (.string x4) w :=
  ⟨by kernel_rfl, by kernel_rfl, by kernel_rfl, by kernel_rfl, by kernel_rfl⟩

set_option maxHeartbeats 400000 in
theorem wstring_at (b : Nat) (t : List UInt8) (w : World) (h : Wr w b t) (hl : t.length ≤ 1000000000000) : Calls Try.prog 19 #[.pointer (some ⟨b, 0, none⟩)] w fun e w' => e = .returned (.string ⟨t.toArray⟩) ∧ w = w' := by
  obtain ⟨p, hp, rfl⟩ := h
  have c0 := hp.cell 0 (by omega)
  have c1 := hp.cell 1 (by omega)
  have c2 := hp.cell 2 (by omega)
  have c3 := hp.cell 3 (by omega)
  have c4 := hp.cell 4 (by omega)
  have hl2 : (p 4).length + ((p 3).length + ((p 2).length + ((p 1).length + (p 0).length))) ≤ 1000000000000 := by simpa [joinP] using hl
  unfold joinP
  generalize p 0 = p0 at *
  generalize p 1 = p1 at *
  generalize p 2 = p2 at *
  generalize p 3 = p3 at *
  generalize p 4 = p4 at *
  obtain ⟨i0, i1, i2, i3, i4⟩ := index5 ⟨p0.toArray⟩ ⟨p1.toArray⟩ ⟨p2.toArray⟩ ⟨p3.toArray⟩ ⟨p4.toArray⟩ w
  clear hl
  go_enter Try.func19, Try.ntmps19
  go_wp2
  go_rounds 6
  go_ret
  refine ⟨congrArg (fun x => Ending.returned (Value.string x)) ?_, rfl⟩
  rw [show (⟨#[]⟩ : ByteArray) = ⟨([] : List UInt8).toArray⟩ from rfl]
  simp only [app_list, List.append_nil]

set_option maxHeartbeats 400000 in
theorem wbyte_at (b : Nat) (c : Int) (t : List UInt8) (w : World) (h : Wr w b t) (hl : t.length < 1000000000000) :
    Calls Try.prog 11 #[.pointer (some ⟨b, 0, none⟩), .int .u8 c] w fun e w' => e = .returned (.tuple #[]) ∧ Wr w' b (t ++ [UInt8.ofNat c.toNat]) ∧ Only b w w' := by
  have hcv := conv_one c w
  have h2 : Wr (w.alloc (.cells #[.int .u8 c] 5)) b t := h.alloc _
  have HA : Hid (Only b w (w.alloc (.cells #[.int .u8 c] 5))) := Only.alloc b w _
  go_enter Try.func11, Try.ntmps11
  go_wp2_with fail
  refine (wraw_at b [UInt8.ofNat c.toNat] t _ h2 (by simp; omega)).mono ?_
  rintro e w' ⟨rfl, hw, ho⟩
  go_wp2
  go_returns
  exact ⟨rfl, hw, HA.out.trans ho⟩
end Go.Proofs.Ytppfejkkfgjikaa
