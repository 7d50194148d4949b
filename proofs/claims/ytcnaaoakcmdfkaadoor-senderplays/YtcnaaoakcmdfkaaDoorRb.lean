/- Proved: what the document's New, Err and SameFrames answer, and what they do to memory. Condition: the sender lies in memory (R); what New is made of may be; lists have at most 256 frames. -/
import Derived.Test.YtcnaaoakcmdfkaaDoorRa
namespace Go.Proofs.YtcnaaoakcmdfkaaDoor
open Go.RowKit

section
variable {w : World} {g bt ba cap : Nat} {a : Option Addr} {iv : Value} {s : Sd}
set_option maxRecDepth 100000 in
set_option maxHeartbeats 1000000 in
theorem qerr_at (h : R w g bt ba a cap iv s) : Calls Tryd.prog 20 #[.pointer (some ⟨g, 0, none⟩)] w fun e w' => e = .returned (.int .i64 (s.err : Nat)) ∧ Keep w w' := by
  have c7 := h.lost
  have HR := Lib.hid h
  cases hl : s.lost
  · rw [hl] at c7
    have HB : Hid (∀ u : KW w, Calls Tryd.prog 22 #[iv] u.1 fun e w'' => e = .returned (.int .i64 (baseN s.l : Nat)) ∧ ∃ m : KW w, w'' = m.1) := Lib.hid fun u => keep_at (fun w1 k1 => by
      refine (qbase iv s.l w1 (h.inn.keep k1) (by rw [h.good.len]; exact h.good.few)).mono ?_
      rintro e w2 ⟨rfl, rfl⟩
      exact ⟨rfl, Keep.refl _⟩) u
    have a1 : ∀ u : KW w, u.1.cell? ⟨g, 3, none⟩ = some iv := fun u => (h.keep u.2).i
    have a2 : ∀ u : KW w, u.1.cell? ⟨g, 2, none⟩ = some (.slice a s.ch.length cap) := fun u => (h.keep u.2).c
    have he : s.err = if baseN s.l = s.ch.length then 15 else 0 := by
      unfold Sd.err
      rw [if_neg (by rw [hl]; simp)]
      by_cases hfu : s.full
      · rw [if_pos hfu, if_pos (by rw [← h.good.len]; exact hfu)]
      · rw [if_neg hfu, if_neg (by rw [← h.good.len]; exact hfu)]
    rw [he]
    clear hl he h
    generalize baseN s.l = B at *
    generalize s.ch.length = N at *
    by_cases hb : B = N
    · rw [if_pos hb]
      subst hb
      go_enter Tryd.func20, Tryd.ntmps20
      go_wp2_with fail
      refine wp_region_keep (Keep.refl _) (by kernel_rfl) (by kernel_rfl) ?_
      repeat (first | go_big_quiet_step (fail) | quiet_step (fail))
      first | go_big_quiet_step (exact HB.out _) | quiet_step (exact HB.out _)
      repeat (first | go_big_quiet_step (fail) | quiet_step (fail))
      refine wpQuiet_nil ?_
      rintro v4 ⟨⟨v5, q5⟩, hv⟩
      obtain rfl : v5 = v4 := hv.symm
      clear hv a1 a2
      go_wp2
      go_ret
      exact ⟨rfl, q5⟩
    · rw [if_neg hb]
      have hbi : ((B : Int) == (N : Int)) = false := by simpa using (by omega : ¬ (B : Int) = N)
      clear hb
      go_enter Tryd.func20, Tryd.ntmps20
      go_wp2_with fail
      refine wp_region_keep (Keep.refl _) (by kernel_rfl) (by kernel_rfl) ?_
      repeat (first | go_big_quiet_step (fail) | quiet_step (fail))
      first | go_big_quiet_step (exact HB.out _) | quiet_step (exact HB.out _)
      repeat (first | go_big_quiet_step (fail) | quiet_step (fail))
      refine wpQuiet_nil ?_
      rintro v4 ⟨⟨v5, q5⟩, hv⟩
      obtain rfl : v5 = v4 := hv.symm
      clear hv a1 a2
      go_wp2
      go_ret
      exact ⟨rfl, q5⟩
  · rw [hl] at c7
    have he : s.err = 16 := by unfold Sd.err; rw [if_pos hl]
    rw [he]
    clear hl he h
    go_enter Tryd.func20, Tryd.ntmps20
    go_wp2
    go_ret
    exact ⟨rfl, Keep.refl _⟩
end

/-! ### Lists of frames -/
def SfRel (l _m : List Fr) (W : World) (iv : Value) (wr : World) : Prop := ∃ k : Nat, iv = .int .i64 k ∧ k ≤ l.length ∧ Keep W wr
set_option maxRecDepth 100000 in
set_option maxHeartbeats 1000000 in
theorem qsameF (u v : Value) (l : List Fr) (w : World) (hu : CelF w u l) (hv : CelF w v l) (hl : l.length ≤ 1000000) : Calls Tryd.prog 16 #[u, v] w fun e w' => e = .returned (.bool true) ∧ Keep w w' := by
  obtain ⟨q1, cap1, rfl, _, _⟩ := hu.form
  obtain ⟨q2, cap2, rfl, _, _⟩ := hv.form
  have HU := Lib.hid hu
  have HV := Lib.hid hv
  obtain ⟨n, hn⟩ : ∃ n, n = 6 := ⟨6, rfl⟩
  have hsz : ∀ w, (Go.sizeOf 34).run Tryd.prog w = .ok n w := fun w => by rw [hn]; exact Tryd.sizeOf34 w
  have hn0 : ¬ n = 0 := by omega
  have HN6 := Lib.hid hn
  obtain ⟨N, hN⟩ : ∃ N, l.length = N := ⟨_, rfl⟩
  have HN := Lib.hid hN
  rw [hN] at hl ⊢
  clear hn hN hu hv
  go_enter Tryd.func16, Tryd.ntmps16
  go_wp2
  go_loopw [5] (fun iv wr => SfRel l l w iv wr) (fun i _ => N + 1 - (intOf i).toNat)
  case atStart => exact ⟨0, rfl, Nat.zero_le _, Keep.refl _⟩
  case round =>
    obtain ⟨k, rfl, hk, hK⟩ := hrel
    rw [HN.out] at hk
    have HK := Lib.hid hK
    clear hK
    by_cases hlt : k < N
    · obtain ⟨x, hx⟩ : ∃ x, l[k]? = some x := ⟨_, List.getElem?_eq_getElem (by rw [HN.out]; exact hlt)⟩
      have hcu := HU.out.keep HK.out
      obtain ⟨g1, o1, c1, e1, _, _, _⟩ := hcu.ptr k (by rw [HN.out]; exact hlt)
      injection e1 with y1 y2 y3
      subst y1 y3
      have hcv := HV.out.keep HK.out
      obtain ⟨g2, o2, c2, e2, _, _, _⟩ := hcv.ptr k (by rw [HN.out]; exact hlt)
      injection e2 with z1 z2 z3
      subst z1 z3
      have a1 : ∀ u : KW wr, (loadCellsFrom ⟨g1, o1 + k * n, none⟩ 0 n #[]).run Tryd.prog u.1 = .ok (fc x) u.1 := fun u => CelF.whole (hcu.keep u.2) HN6.out k x hx
      have a2 : ∀ u : KW wr, (loadCellsFrom ⟨g2, o2 + k * n, none⟩ 0 n #[]).run Tryd.prog u.1 = .ok (fc x) u.1 := fun u => CelF.whole (hcv.keep u.2) HN6.out k x hx
      have hE : ∀ w, (Op.equalIn 10000 34 (.agg (fc x)) (.agg (fc x))).run Tryd.prog w = .ok true w := fun w => by
        have := eq_fc 9997 x x w
        rw [decide_eq_true rfl] at this
        exact this
      clear hcu hcv y2 z2 hx
      generalize fc x = C at *
      go_wp2_with fail
      refine wp_region_keep (Keep.refl _) (by kernel_rfl) (by kernel_rfl) ?_
      repeat (first | go_big_quiet_step (fail) | quiet_step (fail))
      refine wpQuiet_nil ?_
      rintro v4 ⟨⟨v5, q5⟩, hv⟩
      obtain rfl : v5 = v4 := hv.symm
      have HK5 := Lib.hid (HK.out.trans q5)
      clear hv a1 a2 q5
      go_wp2
      go_roundw
      case rel => exact ⟨k + 1, by go_num, by rw [HN.out]; omega, HK5.out⟩
      case measure => simp [intOf]; omega
    · obtain rfl : k = N := by omega
      go_wp2
      go_ret
      exact ⟨rfl, HK.out⟩
end Go.Proofs.YtcnaaoakcmdfkaaDoor
