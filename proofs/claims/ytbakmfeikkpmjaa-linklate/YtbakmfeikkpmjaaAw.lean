/- Proved: the laws' first line, of answers that the document fixes, is true, and turns nothing that was there. No condition. -/
import Derived.Test.YtbakmfeikkpmjaaLg
namespace Go.Proofs.Ytbakmfeikkpmjaa
open Go.RowKit

theorem Mv.toKeep {u w : World} {K : List Nat} (h : Mv u [] w K) : Keep u w := ⟨h.turn.os, h.turn.tape, h.turn.output, h.turn.size, fun i hi => h.turn.block i hi (by simp)⟩
theorem five_cells (w : World) (a b c d e : List UInt8) : TexS (w.alloc (.cells #[.string ⟨a.toArray⟩, .string ⟨b.toArray⟩, .string ⟨c.toArray⟩, .string ⟨d.toArray⟩, .string ⟨e.toArray⟩] 9)) (.slice (some ⟨w.heap.size, 0, none⟩) 5 5) [a, b, c, d, e] := by
  refine .inr ⟨w.heap.size, 0, 5, rfl, Nat.le_refl _, by unfold maxLen; omega, by simp, fun j u hj => ?_⟩
  refine cell_obj (heap_alloc_last w _) ?_
  rw [Nat.zero_add, ← hj]
  simp [flat, se]
theorem two_fates (w : World) (f g : Ft) : Cells fl (w.alloc (.cells #[.int .i64 f.kind, .int .i64 f.n, .int .u32 (f.bits : Nat), .int .i64 g.kind, .int .i64 g.n, .int .u32 (g.bits : Nat)] 29)) (.slice (some ⟨w.heap.size, 0, none⟩) 2 2) [f, g] := by
  refine .inr ⟨w.heap.size, 0, 2, rfl, Nat.le_refl _, by unfold maxLen; omega, by simp, fun j u hj => ?_⟩
  refine cell_obj (heap_alloc_last w _) ?_
  rw [Nat.zero_add, ← hj]
  simp [flat, fl]
def kF (k : Int) : Ft := ⟨k, 0, 0⟩
theorem hurt1 : hurtP [97, 98, 99] ⟨5, 4, 0⟩ = [97] := by decide +kernel
theorem hurt2 : hurtP [97] ⟨4, 9, 1⟩ = [99] := by decide +kernel
theorem fair1 : fairP [kF 1, kF 0] 2 = true := by decide +kernel
theorem fair2 : fairP [kF 1, kF 5] 2 = false := by decide +kernel
set_option maxRecDepth 100000 in
set_option maxHeartbeats 4000000 in
theorem awake (w : World) : Calls Try.prog 6 #[] w fun e w' => e = .returned (.bool true) ∧ Keep w w' := by
  have HN := Lib.hid (lnew w)
  have HS : Hid (∀ (v : World) K b W T (s : List UInt8) (k : Int), Lk v K b W T → k ≠ 4 ∧ k ≠ 5 → W.length + T.length ≤ 900000 → Calls Try.prog 8 #[.pointer (some ⟨b, 0, none⟩), .string ⟨s.toArray⟩, .agg #[.int .i64 k, .int .i64 0, .int .u32 0]] v fun e w' =>
    e = .returned (.tuple #[]) ∧ ∃ K', Lk w' K' b (sendP W T s (kF k)).1 (sendP W T s (kF k)).2 ∧ Mv v K w' K') := Lib.hid (fun v K b W T s k h h1 h2 => lsend s (kF k) (fun h3 => by have : k = 4 ∨ k = 5 := h3; omega) (by show 0 < 4294967296; omega) h h2)
  go_enter Try.func6, Try.ntmps6
  go_wp2_with fail
  refine HN.out.mono ?_
  rintro e w1 ⟨b, K, rfl, hZ, hF, hK⟩
  have HZ := Lib.hid hZ
  have HF := Lib.hid hF
  have HK := Lib.hid (Mv.mk (Turn.keep [] hK) (show More w [] K from fun k hk => .inr (hF k hk)))
  clear hZ hF hK HN
  go_wp2_with fail
  refine (HS.out w1 K b [] [] [97] 3 HZ.out (by omega) (by simp)).mono ?_
  rintro e w2 ⟨rfl, K2, h2, m2⟩
  have HZ2 := Lib.hid (show Lk w2 K2 b [] [[97]] from h2)
  have HK2 := Lib.hid (HK.out.then m2)
  clear h2 m2 HZ HK HF
  go_wp2_with fail
  refine (HS.out w2 K2 b [] [[97]] [98] 0 HZ2.out (by omega) (by simp)).mono ?_
  rintro e w3 ⟨rfl, K3, h3, m3⟩
  have HZ3 := Lib.hid (show Lk w3 K3 b [[98], [97]] [] from h3)
  have HK3 := Lib.hid (HK2.out.then m3)
  clear h3 m3 HZ2 HK2
  go_wp2_with fail
  refine (HS.out w3 K3 b [[98], [97]] [] [99] 2 HZ3.out (by omega) (by simp)).mono ?_
  rintro e w4 ⟨rfl, K4, h4, m4⟩
  have HZ4 := Lib.hid (show Lk w4 K4 b [[98], [97], [99], [99]] [] from h4)
  have HK4 := Lib.hid (HK3.out.then m4)
  clear h4 m4 HZ3 HK3
  go_wp2_with fail
  refine (HS.out w4 K4 b [[98], [97], [99], [99]] [] [100] 1 HZ4.out (by omega) (by simp)).mono ?_
  rintro e w5 ⟨rfl, K5, h5, m5⟩
  have HZ5 := Lib.hid (show Lk w5 K5 b [[98], [97], [99], [99]] [] from h5)
  have HK5 := Lib.hid (HK4.out.then m5)
  clear h5 m5 HZ4 HK4
  go_wp2_with fail
  refine (HS.out w5 K5 b [[98], [97], [99], [99]] [] [101] 3 HZ5.out (by omega) (by simp)).mono ?_
  rintro e w6 ⟨rfl, K6, h6, m6⟩
  have HZ6 := Lib.hid (show Lk w6 K6 b [[98], [97], [99], [99]] [[101]] from h6)
  have HK6 := Lib.hid (HK5.out.then m6)
  clear h6 m6 HZ5 HK5 HS
  go_wp2_with fail
  refine (llen HZ6.out (by simp)).mono ?_
  rintro e w7 ⟨rfl, k7⟩
  have HZ7 := Lib.hid (HZ6.out.keep k7)
  have HK7 := Lib.hid (HK6.out.then (Mv.keep _ k7))
  clear k7 HZ6 HK6
  go_wp2_with fail
  refine (lall HZ7.out (by simp)).mono ?_
  rintro e w8 ⟨v, rfl, hO, K8, h8, m8⟩
  have HO := Lib.hid (OwnS.cells hO)
  have HZ8 := Lib.hid h8
  have HK8 := Lib.hid (HK7.out.then m8.mv)
  clear hO h8 m8 HZ7 HK7
  go_wp2_with fail
  have k9 := (Keep.refl w8).alloc (.cells #[.string ⟨#[98]⟩, .string ⟨#[97]⟩, .string ⟨#[99]⟩, .string ⟨#[99]⟩, .string ⟨#[101]⟩] 9)
  have hs := qsame v _ _ _ _ (HO.out.keep k9) (five_cells w8 [98] [97] [99] [99] [101]) (by simp) (by simp)
  rw [decide_eq_true (by rfl)] at hs
  refine hs.mono ?_
  rintro e w9 ⟨rfl, k10⟩
  have HZ9 := Lib.hid ((HZ8.out.keep k9).keep k10)
  have HK9 := Lib.hid (HK8.out.then (Mv.keep _ (k9.trans k10)))
  clear k9 k10 hs HZ8 HK8 HO
  go_wp2_with fail
  refine (llen HZ9.out (by simp)).mono ?_
  rintro e w10 ⟨rfl, k10⟩
  have HK10 := Lib.hid (HK9.out.toKeep.trans k10)
  clear k10 HZ9 HK9
  go_wp2_with fail
  refine (hurt_at [97, 98, 99] ⟨5, 4, 0⟩ w10 (fun _ => by simp) (by show 0 < 4294967296; omega)).mono ?_
  rw [hurt1]
  rintro e w11 ⟨rfl, k11⟩
  have HK11 := Lib.hid (HK10.out.trans k11)
  clear k11 HK10
  go_wp2_with fail
  refine (hurt_at [97] ⟨4, 9, 1⟩ w11 (fun _ => by simp) (by show 1 < 4294967296; omega)).mono ?_
  rw [hurt2]
  rintro e w12 ⟨rfl, k12⟩
  have HK12 := Lib.hid (HK11.out.trans k12)
  clear k12 HK11
  go_wp2_with fail
  refine (dfair _ _ 2 _ (two_fates w12 (kF 1) (kF 0)) (by simp) (by omega)).mono ?_
  rw [fair1]
  rintro e w13 ⟨rfl, k13⟩
  have HK13 := Lib.hid ((HK12.out.alloc _).trans k13)
  clear k13 HK12
  go_wp2_with fail
  refine (dfair _ _ 2 _ (two_fates w13 (kF 1) (kF 5)) (by simp) (by omega)).mono ?_
  rw [fair2]
  rintro e w14 ⟨rfl, k14⟩
  have HK14 := Lib.hid ((HK13.out.alloc _).trans k14)
  clear k14 HK13
  go_wp2
  go_ret
  exact ⟨rfl, HK14.out⟩
end Go.Proofs.Ytbakmfeikkpmjaa
