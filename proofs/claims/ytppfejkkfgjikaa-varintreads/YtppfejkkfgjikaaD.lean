/- Proved: what the writer's calls Uint, Int and Text of package varint do to memory. Condition: the writer's five cells are known (Wr) and hold fewer than 10^12 bytes, or the pointer is nil; numbers fit in 64 bits. -/
import Derived.Test.YtppfejkkfgjikaaC
namespace Go.Proofs.Ytppfejkkfgjikaa
open Go.RowKit

theorem Try.info5 : (Try.prog.info? 5).map (fun i => (i.zero, i.size, i.bytes)) = some (some (.int .u8 0), 1, 1) := by kernel_rfl

theorem conv_row {w : World} {B : Nat} {v : Value} {n : Nat} {ys : List Value} (xs : List Int) (h : w.ownsRow B 5 1 v n ys) (hys : ys = xs.map (Value.int .u8)) : (convert 31 9 v).run Try.prog w = .ok (.string (strOfNums xs)) w := by
  subst hys
  obtain ⟨h1, h2⟩ := h
  rcases h2 with ⟨rfl, hn⟩ | ⟨g, cap, cur, rfl, hb, hg, h3, h4, h5, h6⟩
  · have : xs = [] := by simp at h1; exact List.eq_nil_of_length_eq_zero (by omega)
    subst this
    rw [run_convert_bytes_nil w 31 5 Try.underlying31 Try.underlying5 0 0 9 Try.underlying9]
    rfl
  · refine run_convert_bytes_arg w 31 5 Try.underlying31 Try.underlying5 g 0 n cap xs (by simpa using h1) ?_ 9 Try.underlying9
    intro i hi
    have hi' : i < xs.length := by simp at h1; omega
    have h7 : cur.toList[i]? = some (Value.int .u8 (xs.getD i 0)) := by
      have h8 : (cur.toList.take (n * 1))[i]? = cur.toList[i]? := List.getElem?_take_of_lt (by omega)
      rw [← h8, h6, List.getElem?_map, List.getD_eq_getElem?_getD, List.getElem?_eq_getElem hi']
      rfl
    have h9 : cur[i]? = some (Value.int .u8 (xs.getD i 0)) := by rw [← h7]; simp
    simp [World.cell?, hg, h9]

set_option maxHeartbeats 400000 in
theorem make10 (w : World) : (Instr.makeSlice 31 (.int .i64 0) (.int .i64 10)).run Try.prog w = .ok (.slice (some ⟨w.heap.size, 0, none⟩) 0 10) (w.alloc (.cells #[.int .u8 0, .int .u8 0, .int .u8 0, .int .u8 0, .int .u8 0, .int .u8 0, .int .u8 0, .int .u8 0, .int .u8 0, .int .u8 0] 5)) := by kernel_rfl

def UintW (w : World) (n : Nat) (nv lv : Value) (wr : World) : Prop :=
  ∃ (m : Nat) (xs : List Int), nv = .int .u64 m ∧ m < 2 ^ 64 ∧ wr.ownsRow w.heap.size 5 1 lv xs.length (xs.map (Value.int .u8)) ∧ V.enc n = (xs.map fun c => UInt8.ofNat c.toNat) ++ V.enc m ∧ Below w.heap.size w wr

theorem or_byte (m : Nat) : bits .or .u8 (IntKind.u8.wrap (m : Int)) 128 = ((m % 128 + 128 : Nat) : Int) := by
  have e1 : IntKind.u8.wrap (m : Int) = ((m % 256 : Nat) : Int) := by rw [IntKind.wrap_u8']; omega
  rw [e1]
  have e2 := u8_or_nat (m % 256) 128 (by omega) (by omega)
  rw [show ((128 : Nat) : Int) = 128 from rfl] at e2
  rw [e2]
  congr 1
  have : m % 256 = m % 128 ∨ m % 256 = 128 + m % 128 := by omega
  rcases this with h | h
  · rw [h, Nat.or_comm, nat_join 7 128 (m % 128) (by decide) (by omega)]; omega
  · rw [h, ← nat_join 7 128 (m % 128) (by decide) (by omega), Nat.or_comm, ← Nat.or_assoc, Nat.or_self, nat_join 7 128 (m % 128) (by decide) (by omega)]; omega

theorem enc_step (xs : List Int) (m : Nat) (h : ¬ m < 128) : (xs.map fun c => UInt8.ofNat c.toNat) ++ V.enc m = ((xs ++ [bits .or .u8 (IntKind.u8.wrap (m : Int)) 128]).map fun c => UInt8.ofNat c.toNat) ++ V.enc (m / 128) := by
  rw [V.enc_ge m h, or_byte m, List.map_append, List.append_assoc]
  rfl

set_option maxRecDepth 100000 in
set_option maxHeartbeats 400000 in
theorem wuint_core (pv : Value) (n : Nat) (hn : n < 2 ^ 64) (w : World) (Q : World → Prop) (H : ∀ w1, Below w.heap.size w w1 → Calls Try.prog 18 #[pv, .string ⟨(V.enc n).toArray⟩] w1 fun e w' => e = .returned (.tuple #[]) ∧ Q w') :
    Calls Try.prog 12 #[pv, .int .u64 n] w fun e w' => e = .returned (.tuple #[]) ∧ Q w' := by
  have hmk := make10
  obtain ⟨i0, hi, hz0, hz1, hz2⟩ := info_parts Try.info5
  have HH := Lib.hid H
  have Hn := Lib.hid hn
  clear H hn
  go_enter Try.func12, Try.ntmps12
  go_wp2
  go_loopw [1, 4] (fun nv lv wr => UintW w n nv lv wr) (fun nv _ _ => (intOf nv).toNat)
  case atStart => exact ⟨n, [], rfl, Hn.out, World.ownsRow_made w _ 10 (Nat.le_refl _) (by decide) rfl, by simp, (Below.refl _ _).alloc (Nat.le_refl _) _⟩
  case round =>
    obtain ⟨m, xs, rfl, hm, hown, henc, hbel⟩ := hrel
    have Hm := Lib.hid hm
    have Henc := Lib.hid henc
    have hxl : xs.length ≤ 10 := by have := V.enc_len10 n Hn.out; rw [henc] at this; simp at this; omega
    clear hm henc
    by_cases h128 : m < 128
    · have hlt : m < 128 := h128
      go_wp2_with (at_builtin; refine wpList_append_own _ rfl _ _ 31 rfl w.heap.size 5 i0 (.int .u8 0) 1 1 Try.underlying31 hi hz0 hz1 hz2 rfl (by decide) _ _ _ rfl (hown.alloc _) ⟨wr.heap.size, 0, none⟩ 1 1 [.int .u8 (m : Int)] rfl rfl (cell_one_new _ _ _) ?d2 ?d3 ?d4 ?d5 ?_)
      case d2 => intro u hu; simp at hu; subst hu; rfl
      case d3 => unfold maxLen; omega
      case d4 => omega
      case d5 => have := hbel.size; simp; omega
      · intro v' w1 hown' hgrow _
        have hcv := conv_row (xs ++ [(m : Int)]) hown' (by simp)
        have hs : strOfNums (xs ++ [(m : Int)]) = ⟨(V.enc n).toArray⟩ := by
          rw [Henc.out, V.enc_lt m hlt]; simp [strOfNums]
        rw [hs] at hcv
        have hb1 : Below w.heap.size w w1 := (hbel.alloc hbel.size _).grown hgrow (by have := hbel.size; simp; omega) (fun k hk => (hown.lt k hk).1)
        clear hs hown' hgrow
        go_wp2_with fail
        refine (HH.out w1 hb1).mono ?_
        rintro e w' ⟨rfl, hq⟩
        go_wp2
        go_returns
        exact ⟨rfl, hq⟩
    · have hge : 128 ≤ m := by omega
      go_wp2_with (at_builtin; refine wpList_append_own _ rfl _ _ 31 rfl w.heap.size 5 i0 (.int .u8 0) 1 1 Try.underlying31 hi hz0 hz1 hz2 rfl (by decide) _ _ _ rfl (hown.alloc _) ⟨wr.heap.size, 0, none⟩ 1 1 [.int .u8 (bits .or .u8 (IntKind.u8.wrap (m : Int)) 128)] rfl rfl (cell_one_new _ _ _) ?c2 ?c3 ?c4 ?c5 ?_)
      case c2 => intro u hu; simp at hu; subst hu; rfl
      case c3 => unfold maxLen; omega
      case c4 => omega
      case c5 => have := hbel.size; simp; omega
      · intro v' w1 hown' hgrow _
        have hb1 : Below w.heap.size w w1 := (hbel.alloc hbel.size _).grown hgrow (by have := hbel.size; simp; omega) (fun k hk => (hown.lt k hk).1)
        have hrel : UintW w n (.int .u64 ((m / 128 : Nat) : Int)) v' w1 := by
          refine ⟨m / 128, xs ++ [bits .or .u8 (IntKind.u8.wrap (m : Int)) 128], rfl, by have := Hm.out; omega, ?_, ?_, hb1⟩
          · rw [List.length_append, List.map_append]; exact hown'
          · rw [Henc.out, enc_step xs m h128]
        have Hrel := Lib.hid hrel
        clear hrel hown' hgrow
        go_wp2
        go_roundw
        case rel => exact Hrel.out
        case measure => simp [intOf]; omega

theorem Wr.below {w w' : World} {b : Nat} {t : List UInt8} (h : Wr w b t) (k : Below w.heap.size w w') : Wr w' b t := h.kept (k.block b h.lt)
theorem Only.ofBelow {w w' : World} (b : Nat) (k : Below w.heap.size w w') : Only b w w' := ⟨k.os, k.tape, k.output, k.size, fun i hi _ => k.block i hi⟩

def WrPost (b : Nat) (w : World) (t : List UInt8) (e : Ending) (w' : World) : Prop := e = .returned (.tuple #[]) ∧ Wr w' b t ∧ Only b w w'

theorem wuint_at (b n : Nat) (t : List UInt8) (w : World) (hn : n < 2 ^ 64) (h : Wr w b t) (hl : t.length + 10 ≤ 1000000000000) : Calls Try.prog 12 #[.pointer (some ⟨b, 0, none⟩), .int .u64 n] w (WrPost b w (t ++ V.enc n)) := by
  refine wuint_core _ n hn w (fun w' => Wr w' b (t ++ V.enc n) ∧ Only b w w') ?_
  intro w1 hb
  refine (wraw_at b (V.enc n) t w1 (h.below hb) (by have := V.enc_len10 n hn; omega)).mono ?_
  rintro e w' ⟨rfl, hw, ho⟩
  exact ⟨rfl, hw, (Only.ofBelow b hb).trans ho⟩

theorem wuint_nil (n : Nat) (w : World) (hn : n < 2 ^ 64) : Calls Try.prog 12 #[.pointer none, .int .u64 n] w fun e w' => e = .returned (.tuple #[]) ∧ Below w.heap.size w w' := by
  refine wuint_core _ n hn w (fun w' => Below w.heap.size w w') ?_
  intro w1 hb
  refine (wraw_nil _ w1).mono ?_
  rintro e w' ⟨rfl, rfl⟩
  exact ⟨rfl, hb⟩

theorem zig_lt (n : Int) (h : (Lit.int .i64 n).wf = true) : V.zig n < 2 ^ 64 := by
  have := bounds_i64 h
  unfold V.zig
  split <;> omega

theorem zig_neg (n : Int) (h : (Lit.int .i64 n).wf = true) (hn : n < 0) : IntKind.u64.wrap (IntKind.u64.wrap (IntKind.u64.wrap (wrap64 (-wrap64 (n + 1))) * 2) + 1) = ((V.zig n : Nat) : Int) := by
  have hb := bounds_i64 h
  have e1 : wrap64 (n + 1) = n + 1 := IntWalk.wrap64_in _ (by omega)
  have e2 : wrap64 (-(n + 1)) = -(n + 1) := IntWalk.wrap64_in _ (by omega)
  rw [e1, e2, IntKind.wrap_u64, IntKind.wrap_u64, IntKind.wrap_u64]
  unfold V.zig
  rw [if_pos hn]
  omega

theorem zig_pos (n : Int) (h : (Lit.int .i64 n).wf = true) (hn : 0 ≤ n) : IntKind.u64.wrap (IntKind.u64.wrap n * 2) = ((V.zig n : Nat) : Int) := by
  have hb := bounds_i64 h
  rw [IntKind.wrap_u64, IntKind.wrap_u64]
  unfold V.zig
  rw [if_neg (by omega)]
  omega

set_option maxHeartbeats 400000 in
theorem wint_core (pv : Value) (n : Int) (hn : (Lit.int .i64 n).wf = true) (w : World) (Q : World → Prop) (H : Calls Try.prog 12 #[pv, .int .u64 (V.zig n : Nat)] w fun e w' => e = .returned (.tuple #[]) ∧ Q w') :
    Calls Try.prog 14 #[pv, .int .i64 n] w fun e w' => e = .returned (.tuple #[]) ∧ Q w' := by
  have HH := Lib.hid H
  clear H
  by_cases h0 : n < 0
  · go_enter Try.func14, Try.ntmps14
    go_wp2_with fail
    rw [zig_neg n hn h0]
    refine HH.out.mono ?_
    rintro e w' ⟨rfl, hq⟩
    go_wp2
    go_returns
    exact ⟨rfl, hq⟩
  · go_enter Try.func14, Try.ntmps14
    go_wp2_with fail
    rw [zig_pos n hn (by omega)]
    refine HH.out.mono ?_
    rintro e w' ⟨rfl, hq⟩
    go_wp2
    go_returns
    exact ⟨rfl, hq⟩

theorem wint_at (b : Nat) (n : Int) (t : List UInt8) (w : World) (hn : (Lit.int .i64 n).wf = true) (h : Wr w b t) (hl : t.length + 10 ≤ 1000000000000) : Calls Try.prog 14 #[.pointer (some ⟨b, 0, none⟩), .int .i64 n] w (WrPost b w (t ++ V.enc (V.zig n))) :=
  wint_core _ n hn w (fun w' => Wr w' b (t ++ V.enc (V.zig n)) ∧ Only b w w') (wuint_at b (V.zig n) t w (zig_lt n hn) h hl)

theorem wint_nil (n : Int) (w : World) (hn : (Lit.int .i64 n).wf = true) : Calls Try.prog 14 #[.pointer none, .int .i64 n] w fun e w' => e = .returned (.tuple #[]) ∧ Below w.heap.size w w' :=
  wint_core _ n hn w (fun w' => Below w.heap.size w w') (wuint_nil (V.zig n) w (zig_lt n hn))

set_option maxHeartbeats 400000 in
theorem wtext_at (b : Nat) (s t : List UInt8) (w : World) (h : Wr w b t) (hl : t.length + s.length + 10 ≤ 1000000000000) : Calls Try.prog 16 #[.pointer (some ⟨b, 0, none⟩), .string ⟨s.toArray⟩] w (WrPost b w (t ++ (V.enc s.length ++ s))) := by
  go_enter Try.func16, Try.ntmps16
  go_wp2_with fail
  refine (wuint_at b s.length t w (by omega) h (by omega)).mono ?_
  rintro e w1 ⟨rfl, hw, ho⟩
  go_wp2_with fail
  refine (wraw_at b s _ w1 hw (by have := V.enc_len10 s.length (by omega); simp; omega)).mono ?_
  rintro e w2 ⟨rfl, hw2, ho2⟩
  go_wp2
  go_returns
  exact ⟨rfl, by rw [← List.append_assoc]; exact hw2, ho.trans ho2⟩

set_option maxHeartbeats 400000 in
theorem wtext_nil (s : List UInt8) (w : World) (hl : s.length ≤ 9223372036854775807) : Calls Try.prog 16 #[.pointer none, .string ⟨s.toArray⟩] w fun e w' => e = .returned (.tuple #[]) ∧ Below w.heap.size w w' := by
  go_enter Try.func16, Try.ntmps16
  go_wp2_with fail
  refine (wuint_nil s.length w (by omega)).mono ?_
  rintro e w1 ⟨rfl, hb⟩
  go_wp2_with fail
  refine (wraw_nil _ w1).mono ?_
  rintro e w2 ⟨rfl, rfl⟩
  go_wp2
  go_returns
  exact ⟨rfl, hb⟩
end Go.Proofs.Ytppfejkkfgjikaa
