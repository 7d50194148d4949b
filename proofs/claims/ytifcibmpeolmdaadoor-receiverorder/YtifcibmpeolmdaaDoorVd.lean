/- Proved: what the writer's calls Raw, String and Byte of package varint do to memory and answer. Condition: the writer's five cells are known (Wr) and hold fewer than 10^12 bytes, or the pointer is nil. -/
import Derived.Test.YtifcibmpeolmdaaDoorVa
import Derived.Laws.BitsAllLaws
import Derived.Laws.BytesArg
import Derived.IntWalk
import Derived.OpenShut
import Derived.Deep.QuietTactic
import Derived.BigQuiet
import Derived.BigRegion
import Derived.Handy
namespace Go.Proofs.YtifcibmpeolmdaaDoor
open Go.RowKit

theorem room_num (k : Nat) (hk : k ≤ 4) : wrap64 (64 * 2 ^ (6 * k)) = 64 * 2 ^ (6 * k) := by
  rcases (show k = 0 ∨ k = 1 ∨ k = 2 ∨ k = 3 ∨ k = 4 by omega) with rfl | rfl | rfl | rfl | rfl <;> decide +kernel

set_option maxHeartbeats 400000 in
theorem room_at (k : Nat) (w : World) (hk : k ≤ 4) : Calls Tryd.prog 76 #[.int .i64 k] w fun e w' => e = .returned (.int .i64 (64 * 2 ^ (6 * k))) ∧ w' = w := by
  go_enter Tryd.func76, Tryd.ntmps76
  go_wp2
  go_ret
  exact ⟨congrArg (fun v => Ending.returned (Value.int .i64 v)) (room_num k hk), rfl⟩

set_option maxHeartbeats 400000 in
theorem wraw_nil (s : ByteArray) (w : World) : Calls Tryd.prog 65 #[.pointer none, .string s] w fun e w' => e = .returned (.tuple #[]) ∧ w = w' := by
  go_enter Tryd.func65, Tryd.ntmps65
  go_wp2
  go_returns
  exact ⟨rfl, rfl⟩

theorem conv_one (c : Int) (w : World) : (convert 60 9 (.slice (some ⟨w.heap.size, 0, none⟩) 1 1)).run Tryd.prog (w.alloc (.cells #[.int .u8 c] 5)) = .ok (.string ⟨#[UInt8.ofNat c.toNat]⟩) (w.alloc (.cells #[.int .u8 c] 5)) := by
  refine run_convert_bytes_arg (w.alloc (.cells #[.int .u8 c] 5)) 60 5 Tryd.underlying60 Tryd.underlying5 w.heap.size 0 1 1 [c] rfl ?_ 9 Tryd.underlying9
  intro i hi
  obtain rfl : i = 0 := by omega
  go_simp

def joinP (p : Nat → List UInt8) : List UInt8 := p 4 ++ (p 3 ++ (p 2 ++ (p 1 ++ p 0)))
def moveP (k : Nat) (p : Nat → List UInt8) : Nat → List UInt8 := fun i => if i = k + 1 then p (k + 1) ++ p k else if i = k then [] else p i
theorem joinP_move (k : Nat) (p : Nat → List UInt8) (hk : k < 4) : joinP (moveP k p) = joinP p := by
  rcases (show k = 0 ∨ k = 1 ∨ k = 2 ∨ k = 3 by omega) with rfl | rfl | rfl | rfl <;> simp [joinP, moveP]
theorem joinP_len (i : Nat) (p : Nat → List UInt8) (hi : i < 4) : (p i).length + (p (i + 1)).length ≤ (joinP p).length := by
  rcases (show i = 0 ∨ i = 1 ∨ i = 2 ∨ i = 3 by omega) with rfl | rfl | rfl | rfl <;> simp [joinP] <;> omega

structure WrP (w : World) (b : Nat) (p : Nat → List UInt8) : Prop where
  cell : ∀ i, i < 5 → w.cell? ⟨b, i, none⟩ = some (.string ⟨(p i).toArray⟩)
  free : ∀ i, i < 5 → w.frozen? ⟨b, i, none⟩ = false

/-- A writer lies in block b: it has the bytes s. -/
def Wr (w : World) (b : Nat) (s : List UInt8) : Prop := ∃ p, WrP w b p ∧ joinP p = s

theorem app_list (x y : List UInt8) : (⟨x.toArray⟩ ++ ⟨y.toArray⟩ : ByteArray) = ⟨(x ++ y).toArray⟩ := by
  apply ByteArray.ext; simp

theorem WrP.put {w : World} {b : Nat} {p : Nat → List UInt8} (h : WrP w b p) (k : Nat) (hk : k < 5) (v : List UInt8) : WrP (w.setCell ⟨b, k, none⟩ (.string ⟨v.toArray⟩)) b (fun i => if i = k then v else p i) := by
  refine ⟨fun i hi => ?_, fun i hi => by rw [World.frozen?_setCell]; exact h.free i hi⟩
  by_cases e : i = k
  · subst e
    simp only [if_true]
    exact World.cell?_setCell_same _ _ _ (h.cell i hi)
  · simp only [if_neg e]
    rw [World.cell?_setCell_other _ _ _ _ (by intro x; injection x with _ x _; omega)]
    exact h.cell i hi

theorem WrP.drewN {w : World} {b : Nat} {p : Nat → List UInt8} (h : WrP w b p) (n : Nat) : WrP (w.drewN n) b p := ⟨h.cell, h.free⟩
theorem Only.drewN (b n : Nat) (w : World) : Only b w (w.drewN n) := ⟨rfl, rfl, rfl, Nat.le_refl _, fun _ _ _ => rfl⟩
theorem Wr.drewN {w : World} {b : Nat} {t : List UInt8} (h : Wr w b t) (n : Nat) : Wr (w.drewN n) b t := by
  obtain ⟨p, hp, e⟩ := h; exact ⟨p, hp.drewN n, e⟩
theorem Wr.other {w w' : World} {b c : Nat} {t : List UInt8} (h : Wr w b t) (k : Only c w w') (hb : b ≠ c) (hs : b < w.heap.size) : Wr w' b t := by
  obtain ⟨p, hp, e⟩ := h
  exact ⟨p, ⟨fun i hi => (k.cell hs hb).trans (hp.cell i hi), fun i hi => (k.frozen hs hb).trans (hp.free i hi)⟩, e⟩
theorem Wr.lt {w : World} {b : Nat} {t : List UInt8} (h : Wr w b t) : b < w.heap.size := by
  obtain ⟨p, hp, _⟩ := h
  have h0 := hp.cell 0 (by omega)
  by_cases hb : b < w.heap.size
  · exact hb
  · have : w.heap[b]? = none := by simp; omega
    simp [World.cell?, this] at h0

theorem Only.alloc (b : Nat) (w : World) (o : Obj) : Only b w (w.alloc o) :=
  ⟨rfl, rfl, rfl, by simp, fun k hk _ => Below.heap_alloc _ _ _ hk⟩
theorem Wr.kept {w w' : World} {b : Nat} {t : List UInt8} (h : Wr w b t) (k : w'.heap[b]? = w.heap[b]?) : Wr w' b t := by
  obtain ⟨p, hp, e⟩ := h
  exact ⟨p, ⟨fun i hi => (World.cell?_of_block (w := w) (a := ⟨b, i, none⟩) k).trans (hp.cell i hi), fun i hi => (World.frozen?_of_block (w := w) (a := ⟨b, i, none⟩) k).trans (hp.free i hi)⟩, e⟩
theorem Wr.alloc {w : World} {b : Nat} {t : List UInt8} (h : Wr w b t) (o : Obj) : Wr (w.alloc o) b t := h.kept (Below.heap_alloc _ _ _ h.lt)

theorem start_rel (b : Nat) (w : World) (p : Nat → List UInt8) (s : List UInt8) (hp : WrP w b p) : Wr (w.setCell ⟨b, 0, none⟩ (Value.string (⟨(p 0).toArray⟩ ++ ⟨s.toArray⟩))).drew b (joinP p ++ s) ∧ Only b w (w.setCell ⟨b, 0, none⟩ (Value.string (⟨(p 0).toArray⟩ ++ ⟨s.toArray⟩))).drew := by
  rw [app_list]
  exact ⟨⟨_, (hp.put 0 (by omega) (p 0 ++ s)).drewN 1, by simp [joinP]⟩, (Only.setCell b 0 w _).trans (Only.drewN b 1 _)⟩

theorem move_rel (b k n : Nat) (w : World) (p : Nat → List UInt8) (hk : k < 4) (hp : WrP w b p) :
    Wr (((w.drewN n).setCell ⟨b, k + 1, none⟩ (Value.string (⟨(p (k + 1)).toArray⟩ ++ ⟨(p k).toArray⟩))).setCell ⟨b, k, none⟩ (Value.string ⟨#[]⟩)) b (joinP p) ∧
    Only b w (((w.drewN n).setCell ⟨b, k + 1, none⟩ (Value.string (⟨(p (k + 1)).toArray⟩ ++ ⟨(p k).toArray⟩))).setCell ⟨b, k, none⟩ (Value.string ⟨#[]⟩)) := by
  rw [app_list]
  refine ⟨⟨_, (((hp.drewN n).put (k + 1) (by omega) _).put k (by omega) []), ?_⟩, ((Only.drewN b n w).trans (Only.setCell b _ _ _)).trans (Only.setCell b _ _ _)⟩
  rw [← joinP_move k p hk]
  congr 1
  funext i
  unfold moveP
  by_cases e1 : i = k
  · subst e1; simp
  · simp [e1]

def RawRel (b : Nat) (w : World) (t : List UInt8) (i : Value) (wr : World) : Prop := ∃ k : Nat, k ≤ 4 ∧ i = .int .i64 k ∧ Wr wr b t ∧ Only b w wr

set_option maxHeartbeats 400000 in
theorem wraw_at (b : Nat) (s t : List UInt8) (w : World) (h : Wr w b t) (hl : t.length + s.length ≤ 1000000000000) :
    Calls Tryd.prog 65 #[.pointer (some ⟨b, 0, none⟩), .string ⟨s.toArray⟩] w fun e w' => e = .returned (.tuple #[]) ∧ Wr w' b (t ++ s) ∧ Only b w w' := by
  obtain ⟨p, hp, rfl⟩ := h
  have c0 := hp.cell 0 (by omega)
  have f0 := hp.free 0 (by omega)
  have l0 : (p 0).length + s.length ≤ 9223372036854775807 := by have := joinP_len 0 p (by omega); omega
  go_enter Tryd.func65, Tryd.ntmps65
  go_wp2
  go_region
  go_wp2
  go_loopw [4] (fun i wr => RawRel b w (joinP p ++ s) i wr) (fun i _ => 5 - (intOf i).toNat)
  case atStart => exact ⟨0, by omega, rfl, (start_rel b w p s hp).1, (start_rel b w p s hp).2⟩
  case round =>
    clear c0 f0 l0 hp
    obtain ⟨k, hk, rfl, ⟨q, hq, hj⟩, ho⟩ := hrel
    have Hj := Lib.hid hj
    clear hj
    by_cases hk4 : k < 4
    · have ck := hq.cell k (by omega)
      have ck1 := hq.cell (k + 1) (by omega)
      have fk := hq.free k (by omega)
      have fk1 := hq.free (k + 1) (by omega)
      have hk5 : (k : Int) + 1 < 5 := by omega
      by_cases hR : (64 * 2 ^ (6 * k) : Int) ≤ ((q k).length : Int)
      · go_wp2_with fail
        go_quiet ((go_at_call 76; exact Calls.quiet_of_same (room_at k _ (by omega))))
        go_wp2
        have hlk : (q (k + 1)).length + (q k).length ≤ 9223372036854775807 := by have := joinP_len k q hk4; rw [Hj.out, List.length_append] at this; omega
        go_region
        go_wp2
        go_roundw
        case rel => exact ⟨k + 1, by omega, by go_num, Hj.out ▸ (move_rel b k (nq + 1) wr q hk4 hq).1, ho.trans (move_rel b k (nq + 1) wr q hk4 hq).2⟩
        case measure => simp [intOf]; omega
      · go_wp2_with fail
        go_quiet ((go_at_call 76; exact Calls.quiet_of_same (room_at k _ (by omega))))
        go_wp2
        go_returns
        exact ⟨rfl, ⟨q, hq.drewN _, Hj.out⟩, ho.trans (Only.drewN b _ _)⟩
    · have hd : decide ((k : Int) + 1 < 5) = false := by simp; omega
      go_wp2_with fail
      go_quiet (fail)
      go_wp2
      go_returns
      exact ⟨rfl, ⟨q, hq.drewN _, Hj.out⟩, ho.trans (Only.drewN b _ _)⟩

set_option maxHeartbeats 400000 in
theorem wstring_nil (w : World) : Calls Tryd.prog 46 #[.pointer none] w fun e w' => e = .returned (.string ⟨#[]⟩) ∧ w = w' := by
  go_enter Tryd.func46, Tryd.ntmps46
  go_wp2
  go_ret
  exact ⟨rfl, rfl⟩

theorem index5 (x0 x1 x2 x3 x4 : ByteArray) (w : World) :
    (Instr.index 76 (.agg #[.string x0, .string x1, .string x2, .string x3, .string x4]) (.int .i64 0)).run Tryd.prog w = .ok (.string x0) w ∧
    (Instr.index 76 (.agg #[.string x0, .string x1, .string x2, .string x3, .string x4]) (.int .i64 1)).run Tryd.prog w = .ok (.string x1) w ∧
    (Instr.index 76 (.agg #[.string x0, .string x1, .string x2, .string x3, .string x4]) (.int .i64 2)).run Tryd.prog w = .ok (.string x2) w ∧
    (Instr.index 76 (.agg #[.string x0, .string x1, .string x2, .string x3, .string x4]) (.int .i64 3)).run Tryd.prog w = .ok (.string x3) w ∧
    (Instr.index 76 (.agg #[.string x0, .string x1, .string x2, .string x3, .string x4]) (.int .i64 4)).run Tryd.prog w = .ok (.string x4) w :=
  ⟨by kernel_rfl, by kernel_rfl, by kernel_rfl, by kernel_rfl, by kernel_rfl⟩

set_option maxHeartbeats 400000 in
theorem wstring_at (b : Nat) (t : List UInt8) (w : World) (h : Wr w b t) (hl : t.length ≤ 1000000000000) : Calls Tryd.prog 46 #[.pointer (some ⟨b, 0, none⟩)] w fun e w' => e = .returned (.string ⟨t.toArray⟩) ∧ w = w' := by
  obtain ⟨p, hp, rfl⟩ := h
  have c0 := hp.cell 0 (by omega)
  have c1 := hp.cell 1 (by omega)
  have c2 := hp.cell 2 (by omega)
  have c3 := hp.cell 3 (by omega)
  have c4 := hp.cell 4 (by omega)
  have hl2 : (p 4).length + ((p 3).length + ((p 2).length + ((p 1).length + (p 0).length))) ≤ 1000000000000 := by simpa [joinP] using hl
  unfold joinP
  generalize p 0 = p0 at *
  generalize p 1 = p1 at *
  generalize p 2 = p2 at *
  generalize p 3 = p3 at *
  generalize p 4 = p4 at *
  obtain ⟨i0, i1, i2, i3, i4⟩ := index5 ⟨p0.toArray⟩ ⟨p1.toArray⟩ ⟨p2.toArray⟩ ⟨p3.toArray⟩ ⟨p4.toArray⟩ w
  clear hl
  go_enter Tryd.func46, Tryd.ntmps46
  go_wp2
  go_rounds 6
  go_ret
  refine ⟨congrArg (fun x => Ending.returned (Value.string x)) ?_, rfl⟩
  rw [show (⟨#[]⟩ : ByteArray) = ⟨([] : List UInt8).toArray⟩ from rfl]
  simp only [app_list, List.append_nil]

end Go.Proofs.YtifcibmpeolmdaaDoor

/- Proved: what the writer's calls Uint, Int and Text of package varint do to memory. Condition: the writer's five cells are known (Wr) and hold fewer than 10^12 bytes, or the pointer is nil; numbers fit in 64 bits. -/
namespace Go.Proofs.YtifcibmpeolmdaaDoor
open Go.RowKit

theorem Tryd.info5 : (Tryd.prog.info? 5).map (fun i => (i.zero, i.size, i.bytes)) = some (some (.int .u8 0), 1, 1) := by kernel_rfl

theorem conv_row {w : World} {B : Nat} {v : Value} {n : Nat} {ys : List Value} (xs : List Int) (h : w.ownsRow B 5 1 v n ys) (hys : ys = xs.map (Value.int .u8)) : (convert 60 9 v).run Tryd.prog w = .ok (.string (strOfNums xs)) w := by
  subst hys
  obtain ⟨h1, h2⟩ := h
  rcases h2 with ⟨rfl, hn⟩ | ⟨g, cap, cur, rfl, hb, hg, h3, h4, h5, h6⟩
  · have : xs = [] := by simp at h1; exact List.eq_nil_of_length_eq_zero (by omega)
    subst this
    rw [run_convert_bytes_nil w 60 5 Tryd.underlying60 Tryd.underlying5 0 0 9 Tryd.underlying9]
    rfl
  · refine run_convert_bytes_arg w 60 5 Tryd.underlying60 Tryd.underlying5 g 0 n cap xs (by simpa using h1) ?_ 9 Tryd.underlying9
    intro i hi
    have hi' : i < xs.length := by simp at h1; omega
    have h7 : cur.toList[i]? = some (Value.int .u8 (xs.getD i 0)) := by
      have h8 : (cur.toList.take (n * 1))[i]? = cur.toList[i]? := List.getElem?_take_of_lt (by omega)
      rw [← h8, h6, List.getElem?_map, List.getD_eq_getElem?_getD, List.getElem?_eq_getElem hi']
      rfl
    have h9 : cur[i]? = some (Value.int .u8 (xs.getD i 0)) := by rw [← h7]; simp
    simp [World.cell?, hg, h9]

set_option maxHeartbeats 400000 in
theorem make10 (w : World) : (Instr.makeSlice 60 (.int .i64 0) (.int .i64 10)).run Tryd.prog w = .ok (.slice (some ⟨w.heap.size, 0, none⟩) 0 10) (w.alloc (.cells #[.int .u8 0, .int .u8 0, .int .u8 0, .int .u8 0, .int .u8 0, .int .u8 0, .int .u8 0, .int .u8 0, .int .u8 0, .int .u8 0] 5)) := by kernel_rfl

def UintW (w : World) (n : Nat) (nv lv : Value) (wr : World) : Prop :=
  ∃ (m : Nat) (xs : List Int), nv = .int .u64 m ∧ m < 2 ^ 64 ∧ wr.ownsRow w.heap.size 5 1 lv xs.length (xs.map (Value.int .u8)) ∧ V.enc n = (xs.map fun c => UInt8.ofNat c.toNat) ++ V.enc m ∧ Below w.heap.size w wr

theorem or_byte (m : Nat) : bits .or .u8 (IntKind.u8.wrap (m : Int)) 128 = ((m % 128 + 128 : Nat) : Int) := by
  have e1 : IntKind.u8.wrap (m : Int) = ((m % 256 : Nat) : Int) := by rw [IntKind.wrap_u8']; omega
  rw [e1]
  have e2 := u8_or_nat (m % 256) 128 (by omega) (by omega)
  rw [show ((128 : Nat) : Int) = 128 from rfl] at e2
  rw [e2]
  congr 1
  have : m % 256 = m % 128 ∨ m % 256 = 128 + m % 128 := by omega
  rcases this with h | h
  · rw [h, Nat.or_comm, nat_join 7 128 (m % 128) (by decide) (by omega)]; omega
  · rw [h, ← nat_join 7 128 (m % 128) (by decide) (by omega), Nat.or_comm, ← Nat.or_assoc, Nat.or_self, nat_join 7 128 (m % 128) (by decide) (by omega)]; omega

theorem enc_step (xs : List Int) (m : Nat) (h : ¬ m < 128) : (xs.map fun c => UInt8.ofNat c.toNat) ++ V.enc m = ((xs ++ [bits .or .u8 (IntKind.u8.wrap (m : Int)) 128]).map fun c => UInt8.ofNat c.toNat) ++ V.enc (m / 128) := by
  rw [V.enc_ge m h, or_byte m, List.map_append, List.append_assoc]
  rfl

set_option maxRecDepth 100000 in
set_option maxHeartbeats 400000 in
theorem wuint_core (pv : Value) (n : Nat) (hn : n < 2 ^ 64) (w : World) (Q : World → Prop) (H : ∀ w1, Below w.heap.size w w1 → Calls Tryd.prog 65 #[pv, .string ⟨(V.enc n).toArray⟩] w1 fun e w' => e = .returned (.tuple #[]) ∧ Q w') :
    Calls Tryd.prog 43 #[pv, .int .u64 n] w fun e w' => e = .returned (.tuple #[]) ∧ Q w' := by
  have hmk := make10
  obtain ⟨i0, hi, hz0, hz1, hz2⟩ := info_parts Tryd.info5
  have HH := Lib.hid H
  have Hn := Lib.hid hn
  clear H hn
  go_enter Tryd.func43, Tryd.ntmps43
  go_wp2
  go_loopw [1, 4] (fun nv lv wr => UintW w n nv lv wr) (fun nv _ _ => (intOf nv).toNat)
  case atStart => exact ⟨n, [], rfl, Hn.out, World.ownsRow_made w _ 10 (Nat.le_refl _) (by decide) rfl, by simp, (Below.refl _ _).alloc (Nat.le_refl _) _⟩
  case round =>
    obtain ⟨m, xs, rfl, hm, hown, henc, hbel⟩ := hrel
    have Hm := Lib.hid hm
    have Henc := Lib.hid henc
    have hxl : xs.length ≤ 10 := by have := V.enc_len10 n Hn.out; rw [henc] at this; simp at this; omega
    clear hm henc
    by_cases h128 : m < 128
    · have hlt : m < 128 := h128
      go_wp2_with (at_builtin; refine wpList_append_own _ rfl _ _ 60 rfl w.heap.size 5 i0 (.int .u8 0) 1 1 Tryd.underlying60 hi hz0 hz1 hz2 rfl (by decide) _ _ _ rfl (hown.alloc _) ⟨wr.heap.size, 0, none⟩ 1 1 [.int .u8 (m : Int)] rfl rfl (cell_one_new _ _ _) ?d2 ?d3 ?d4 ?d5 ?_)
      case d2 => intro u hu; simp at hu; subst hu; rfl
      case d3 => unfold maxLen; omega
      case d4 => omega
      case d5 => have := hbel.size; simp; omega
      · intro v' w1 hown' hgrow _
        have hcv := conv_row (xs ++ [(m : Int)]) hown' (by simp)
        have hs : strOfNums (xs ++ [(m : Int)]) = ⟨(V.enc n).toArray⟩ := by
          rw [Henc.out, V.enc_lt m hlt]; simp [strOfNums]
        rw [hs] at hcv
        have hb1 : Below w.heap.size w w1 := (hbel.alloc hbel.size _).grown hgrow (by have := hbel.size; simp; omega) (fun k hk => (hown.lt k hk).1)
        clear hs hown' hgrow
        go_wp2_with fail
        refine (HH.out w1 hb1).mono ?_
        rintro e w' ⟨rfl, hq⟩
        go_wp2
        go_returns
        exact ⟨rfl, hq⟩
    · have hge : 128 ≤ m := by omega
      go_wp2_with (at_builtin; refine wpList_append_own _ rfl _ _ 60 rfl w.heap.size 5 i0 (.int .u8 0) 1 1 Tryd.underlying60 hi hz0 hz1 hz2 rfl (by decide) _ _ _ rfl (hown.alloc _) ⟨wr.heap.size, 0, none⟩ 1 1 [.int .u8 (bits .or .u8 (IntKind.u8.wrap (m : Int)) 128)] rfl rfl (cell_one_new _ _ _) ?c2 ?c3 ?c4 ?c5 ?_)
      case c2 => intro u hu; simp at hu; subst hu; rfl
      case c3 => unfold maxLen; omega
      case c4 => omega
      case c5 => have := hbel.size; simp; omega
      · intro v' w1 hown' hgrow _
        have hb1 : Below w.heap.size w w1 := (hbel.alloc hbel.size _).grown hgrow (by have := hbel.size; simp; omega) (fun k hk => (hown.lt k hk).1)
        have hrel : UintW w n (.int .u64 ((m / 128 : Nat) : Int)) v' w1 := by
          refine ⟨m / 128, xs ++ [bits .or .u8 (IntKind.u8.wrap (m : Int)) 128], rfl, by have := Hm.out; omega, ?_, ?_, hb1⟩
          · rw [List.length_append, List.map_append]; exact hown'
          · rw [Henc.out, enc_step xs m h128]
        have Hrel := Lib.hid hrel
        clear hrel hown' hgrow
        go_wp2
        go_roundw
        case rel => exact Hrel.out
        case measure => simp [intOf]; omega

theorem Wr.below {w w' : World} {b : Nat} {t : List UInt8} (h : Wr w b t) (k : Below w.heap.size w w') : Wr w' b t := h.kept (k.block b h.lt)
theorem Only.ofBelow {w w' : World} (b : Nat) (k : Below w.heap.size w w') : Only b w w' := ⟨k.os, k.tape, k.output, k.size, fun i hi _ => k.block i hi⟩

def WrPost (b : Nat) (w : World) (t : List UInt8) (e : Ending) (w' : World) : Prop := e = .returned (.tuple #[]) ∧ Wr w' b t ∧ Only b w w'

theorem wuint_at (b n : Nat) (t : List UInt8) (w : World) (hn : n < 2 ^ 64) (h : Wr w b t) (hl : t.length + 10 ≤ 1000000000000) : Calls Tryd.prog 43 #[.pointer (some ⟨b, 0, none⟩), .int .u64 n] w (WrPost b w (t ++ V.enc n)) := by
  refine wuint_core _ n hn w (fun w' => Wr w' b (t ++ V.enc n) ∧ Only b w w') ?_
  intro w1 hb
  refine (wraw_at b (V.enc n) t w1 (h.below hb) (by have := V.enc_len10 n hn; omega)).mono ?_
  rintro e w' ⟨rfl, hw, ho⟩
  exact ⟨rfl, hw, (Only.ofBelow b hb).trans ho⟩

theorem wuint_nil (n : Nat) (w : World) (hn : n < 2 ^ 64) : Calls Tryd.prog 43 #[.pointer none, .int .u64 n] w fun e w' => e = .returned (.tuple #[]) ∧ Below w.heap.size w w' := by
  refine wuint_core _ n hn w (fun w' => Below w.heap.size w w') ?_
  intro w1 hb
  refine (wraw_nil _ w1).mono ?_
  rintro e w' ⟨rfl, rfl⟩
  exact ⟨rfl, hb⟩

theorem zig_lt (n : Int) (h : (Lit.int .i64 n).wf = true) : V.zig n < 2 ^ 64 := by
  have := bounds_i64 h
  unfold V.zig
  split <;> omega

theorem zig_neg (n : Int) (h : (Lit.int .i64 n).wf = true) (hn : n < 0) : IntKind.u64.wrap (IntKind.u64.wrap (IntKind.u64.wrap (wrap64 (-wrap64 (n + 1))) * 2) + 1) = ((V.zig n : Nat) : Int) := by
  have hb := bounds_i64 h
  have e1 : wrap64 (n + 1) = n + 1 := IntWalk.wrap64_in _ (by omega)
  have e2 : wrap64 (-(n + 1)) = -(n + 1) := IntWalk.wrap64_in _ (by omega)
  rw [e1, e2, IntKind.wrap_u64, IntKind.wrap_u64, IntKind.wrap_u64]
  unfold V.zig
  rw [if_pos hn]
  omega

theorem zig_pos (n : Int) (h : (Lit.int .i64 n).wf = true) (hn : 0 ≤ n) : IntKind.u64.wrap (IntKind.u64.wrap n * 2) = ((V.zig n : Nat) : Int) := by
  have hb := bounds_i64 h
  rw [IntKind.wrap_u64, IntKind.wrap_u64]
  unfold V.zig
  rw [if_neg (by omega)]
  omega

set_option maxHeartbeats 400000 in
theorem wtext_at (b : Nat) (s t : List UInt8) (w : World) (h : Wr w b t) (hl : t.length + s.length + 10 ≤ 1000000000000) : Calls Tryd.prog 45 #[.pointer (some ⟨b, 0, none⟩), .string ⟨s.toArray⟩] w (WrPost b w (t ++ (V.enc s.length ++ s))) := by
  go_enter Tryd.func45, Tryd.ntmps45
  go_wp2_with fail
  refine (wuint_at b s.length t w (by omega) h (by omega)).mono ?_
  rintro e w1 ⟨rfl, hw, ho⟩
  go_wp2_with fail
  refine (wraw_at b s _ w1 hw (by have := V.enc_len10 s.length (by omega); simp; omega)).mono ?_
  rintro e w2 ⟨rfl, hw2, ho2⟩
  go_wp2
  go_returns
  exact ⟨rfl, by rw [← List.append_assoc]; exact hw2, ho.trans ho2⟩

set_option maxHeartbeats 400000 in
theorem wtext_nil (s : List UInt8) (w : World) (hl : s.length ≤ 9223372036854775807) : Calls Tryd.prog 45 #[.pointer none, .string ⟨s.toArray⟩] w fun e w' => e = .returned (.tuple #[]) ∧ Below w.heap.size w w' := by
  go_enter Tryd.func45, Tryd.ntmps45
  go_wp2_with fail
  refine (wuint_nil s.length w (by omega)).mono ?_
  rintro e w1 ⟨rfl, hb⟩
  go_wp2_with fail
  refine (wraw_nil _ w1).mono ?_
  rintro e w2 ⟨rfl, rfl⟩
  go_wp2
  go_returns
  exact ⟨rfl, hb⟩
end Go.Proofs.YtifcibmpeolmdaaDoor
