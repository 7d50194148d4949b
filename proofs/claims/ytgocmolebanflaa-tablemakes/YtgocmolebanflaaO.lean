/- Proved: what table's Put and Drop answer, and what becomes of the table. Condition: the table lies in memory, or is none. -/
import Derived.Test.YtgocmolebanflaaN
namespace Go.Proofs.Ytgocmolebanflaa
open Go.RowKit

theorem Row.one (w : World) (r : Rt) : Row rl 34 (w.alloc (.cells (rc r) 34)) (.slice (some ⟨w.heap.size, 0, none⟩) 1 1) [r] := by
  have hb : (w.alloc (.cells (rc r) 34)).heap[w.heap.size]? = some (.cells (rc r) 34 (0, 0)) := heap_alloc_last w _
  refine ⟨.inr ⟨w.heap.size, 0, 1, rfl, Nat.le_refl _, by simp [maxLen], block_lt hb, fun j u hj => ?_⟩, fun g hg => ?_⟩
  · rw [flat_one] at hj
    exact cell_obj hb (by rw [Nat.zero_add]; simpa [rc] using hj)
  · simp [Value.ownBlock] at hg
    subst hg
    exact ⟨_, _, hb⟩

theorem put_nil (r : Rt) : GivesK Try.prog 12 #[.pointer none, .agg (rc r)] (.int .i64 10) := by
  intro w
  go_enter Try.func12, Try.ntmps12
  go_wp2
  go_ret
  exact ⟨rfl, (Keep.refl w).alloc _⟩

def TbPost (b : Nat) (w : World) (x : List Rt × Int) (e : Ending) (w' : World) : Prop := e = .returned (.int .i64 x.2) ∧ Tb w' b x.1 ∧ Only b w w'

set_option maxRecDepth 100000 in
set_option maxHeartbeats 1000000 in
theorem put (b : Nat) (l : List Rt) (r : Rt) (w : World) (h : Tb w b l) : Calls Try.prog 12 #[.pointer (some ⟨b, 0, none⟩), .agg (rc r)] w (TbPost b w (putS l r)) := by
  have hA := RAt.new w r
  have hS : Keep w (w.alloc (.cells (rc r) 34)) := (Keep.refl w).alloc _
  obtain ⟨n, hn⟩ : ∃ n, n = 18 := ⟨18, rfl⟩
  have hsz : ∀ w, (Go.sizeOf 25).run Try.prog w = .ok n w := fun w => by rw [hn]; exact Try.sizeOf25 w
  have hn0 : ¬ n = 0 := by omega
  obtain ⟨n2, hn2⟩ : ∃ n, n = 20 := ⟨20, rfl⟩
  have hsz2 : ∀ w, (Go.sizeOf 34).run Try.prog w = .ok n2 w := fun w => by rw [hn2]; exact Try.sizeOf34 w
  have HR := Lib.hid (rightT r).keep
  have HSL := Lib.hid (slice_one r)
  have HROW := Lib.hid (fun w => Row.one w r)
  have h1 := hA.whole hn2
  have HA := Lib.hid hA
  have HS := Lib.hid hS
  have HT := Lib.hid (h.keep hS)
  have HN := Lib.hid hn
  have HN2 := Lib.hid hn2
  have hsrt := Lib.hid h.sorted
  have hfew := Lib.hid h.few
  clear hA hS hn hn2 h
  obtain ⟨R, hR⟩ : ∃ R, rc r = R := ⟨_, rfl⟩
  have HRC := Lib.hid hR
  rw [hR] at h1 HR HSL HROW HS HA HT
  simp only [hR] at HSL HROW ⊢
  clear hR
  unfold putS
  by_cases hr : rightR r
  · rw [if_pos hr]
    rw [decide_eq_true hr] at HR
    have hrk := rank_le l r.to
    by_cases hh : hasP l r.to
    · rw [if_pos hh]
      have hlt := has_lt hsrt.out r.ok hh
      have HL := Lib.hid (show l.take (rank l r.to) ++ [r] ++ l.drop (rank l r.to + 1) = putL l r by unfold putL; rw [if_pos hh, List.append_assoc]; rfl)
      have HP := Lib.hid (fun w h => place (.pointer (some ⟨b, 0, none⟩)) l r.to r.ok w h)
      simp only [hh] at HP
      have hpl := putL_len hsrt.out r
      rw [if_pos hh] at hpl
      have HPL := Lib.hid hpl
      have HPS := Lib.hid (putL_sorted hsrt.out r)
      clear hpl hh hr
      obtain ⟨k, hk⟩ : ∃ k, rank l r.to = k := ⟨_, rfl⟩
      rw [hk] at hlt HL HP hrk
      have hkl : k ≤ 1000000 := by have := hfew.out; omega
      clear hk
      go_enter Try.func12, Try.ntmps12
      go_wp2_with fail
      refine (HR.out _).mono ?_
      rintro e w1 ⟨rfl, b1⟩
      have h2 := (HA.out.keep b1).to HN.out
      go_wp2_with fail
      refine (HP.out _ (.inr ⟨b, rfl, HT.out.keep b1⟩)).mono ?_
      rintro e w2 ⟨rfl, b2⟩
      have h3 := (HA.out.keep (b1.trans b2)).whole HN2.out
      rw [HRC.out] at h3
      have HT2 := Lib.hid (HT.out.keep (b1.trans b2))
      have HK2 := Lib.hid (HS.out.trans (b1.trans b2))
      clear h1 h2 b1 b2 HT
      go_wp2_with (refine at_slice [(0, .agg R)] rfl _ (HSL.out _) ?_)
      have HK3 := Lib.hid (show Keep w2 (w2.alloc (.cells R 34)) from (Keep.refl w2).alloc _)
      have hrep := replace b l [r] k (k + 1) _ _ (HT2.out.keep HK3.out) (by omega) (by omega) (HROW.out w2) (by simp) (by rw [HL.out]; exact HPS.out) (by rw [HL.out, HPL.out]; exact hfew.out)
      rw [show ((k + 1 : Nat) : Int) = (k : Int) + 1 by omega, HL.out] at hrep
      refine hrep.mono ?_
      rintro e w3 ⟨rfl, t3, o3⟩
      clear hrep h3
      have HE := Lib.hid (show TbPost b w (putL l r, 0) (.returned (.int .i64 0)) w3 from ⟨rfl, t3, (Only.keep (HK2.out.trans HK3.out)).trans o3⟩)
      clear t3 o3
      go_wp2
      go_ret
      exact HE.out
    · rw [if_neg hh]
      have hhf : hasP l r.to = false := by simpa using hh
      have HP := Lib.hid (fun w h => place (.pointer (some ⟨b, 0, none⟩)) l r.to r.ok w h)
      simp only [hhf] at HP
      have HL := Lib.hid (show l.take (rank l r.to) ++ [r] ++ l.drop (rank l r.to) = putL l r by unfold putL; rw [if_neg hh, List.append_assoc]; rfl)
      have hpl := putL_len hsrt.out r
      rw [if_neg hh] at hpl
      have HPL := Lib.hid hpl
      have HPS := Lib.hid (putL_sorted hsrt.out r)
      clear hpl hh hr hhf
      obtain ⟨k, hk⟩ : ∃ k, rank l r.to = k := ⟨_, rfl⟩
      rw [hk] at HL HP hrk
      clear hk
      by_cases hb : 300 ≤ l.length
      · rw [if_pos hb]
        go_enter Try.func12, Try.ntmps12
        go_wp2_with fail
        refine (HR.out _).mono ?_
        rintro e w1 ⟨rfl, b1⟩
        have h2 := (HA.out.keep b1).to HN.out
        go_wp2_with fail
        refine (HP.out _ (.inr ⟨b, rfl, HT.out.keep b1⟩)).mono ?_
        rintro e w2 ⟨rfl, b2⟩
        have HT2 := Lib.hid (HT.out.keep (b1.trans b2))
        have HK2 := Lib.hid (HS.out.trans (b1.trans b2))
        obtain ⟨v, hv, hrow⟩ := HT2.out.lies
        obtain ⟨a, cap, e, _, _⟩ := hrow.cells.form
        subst e
        have hc : w2.cell? ⟨b, 0, none⟩ = some (.slice a l.length cap) := cell_obj hv rfl
        have hb2 : (l.length : Int) ≥ 300 := by omega
        clear h1 h2 b1 b2 HT hv hrow
        go_wp2
        go_ret
        exact ⟨rfl, HT2.out, Only.keep HK2.out⟩
      · rw [if_neg hb]
        go_enter Try.func12, Try.ntmps12
        go_wp2_with fail
        refine (HR.out _).mono ?_
        rintro e w1 ⟨rfl, b1⟩
        have h2 := (HA.out.keep b1).to HN.out
        go_wp2_with fail
        refine (HP.out _ (.inr ⟨b, rfl, HT.out.keep b1⟩)).mono ?_
        rintro e w2 ⟨rfl, b2⟩
        have h3 := (HA.out.keep (b1.trans b2)).whole HN2.out
        rw [HRC.out] at h3
        have HT2 := Lib.hid (HT.out.keep (b1.trans b2))
        have HK2 := Lib.hid (HS.out.trans (b1.trans b2))
        obtain ⟨v, hv, hrow⟩ := HT2.out.lies
        obtain ⟨a, cap, e, _, _⟩ := hrow.cells.form
        subst e
        have hc : w2.cell? ⟨b, 0, none⟩ = some (.slice a l.length cap) := cell_obj hv rfl
        have hb2 : ¬ ((l.length : Int) ≥ 300) := by omega
        clear h1 h2 b1 b2 HT hv hrow
        go_wp2_with (refine at_slice [(0, .agg R)] rfl _ (HSL.out _) ?_)
        have HK3 := Lib.hid (show Keep w2 (w2.alloc (.cells R 34)) from (Keep.refl w2).alloc _)
        have hrep := replace b l [r] k k _ _ (HT2.out.keep HK3.out) (by omega) (by omega) (HROW.out w2) (by simp) (by rw [HL.out]; exact HPS.out) (by rw [HL.out, HPL.out]; omega)
        rw [HL.out] at hrep
        refine hrep.mono ?_
        rintro e w3 ⟨rfl, t3, o3⟩
        clear hrep h3
        have HE := Lib.hid (show TbPost b w (putL l r, 0) (.returned (.int .i64 0)) w3 from ⟨rfl, t3, (Only.keep (HK2.out.trans HK3.out)).trans o3⟩)
        clear t3 o3
        go_wp2
        go_ret
        exact HE.out
  · rw [if_neg hr]
    rw [decide_eq_false hr] at HR
    clear hr
    go_enter Try.func12, Try.ntmps12
    go_wp2_with fail
    refine (HR.out _).mono ?_
    rintro e w1 ⟨rfl, b1⟩
    go_wp2
    go_ret
    exact ⟨rfl, HT.out.keep b1, Only.keep (HS.out.trans b1)⟩

theorem drop_nil (p : Px) : GivesK Try.prog 14 #[.pointer none, .agg (pc p)] (.int .i64 10) := by
  intro w
  go_enter Try.func14, Try.ntmps14
  go_wp2
  go_ret
  exact ⟨rfl, (Keep.refl w).alloc _⟩

set_option maxRecDepth 100000 in
set_option maxHeartbeats 1000000 in
theorem drop (b : Nat) (l : List Rt) (p : Px) (hp : L16 p) (w : World) (h : Tb w b l) : Calls Try.prog 14 #[.pointer (some ⟨b, 0, none⟩), .agg (pc p)] w (TbPost b w (dropS l p)) := by
  have hA := (one_at w p hp).1
  have hS : Keep w (w.alloc (.cells (pc p) 25)) := (Keep.refl w).alloc _
  obtain ⟨n, hn⟩ : ∃ n, n = 18 := ⟨18, rfl⟩
  have hsz : ∀ w, (Go.sizeOf 25).run Try.prog w = .ok n w := fun w => by rw [hn]; exact Try.sizeOf25 w
  have hn0 : ¬ n = 0 := by omega
  have h1 := hA.whole hn
  have HP := Lib.hid (place (.pointer (some ⟨b, 0, none⟩)) l p hp _ (.inr ⟨b, rfl, h.keep hS⟩))
  have HS := Lib.hid hS
  have HT := Lib.hid (h.keep hS)
  have hsrt := Lib.hid h.sorted
  have hfew := Lib.hid h.few
  have HCS := Lib.hid (cutP_sorted h.sorted p)
  unfold dropS
  by_cases hh : hasP l p
  · rw [if_pos hh]
    rw [hh] at HP
    have hlt := has_lt h.sorted hp hh
    have HCL := Lib.hid (cutP_len h.sorted hp hh)
    have HL := Lib.hid (show l.take (rank l p) ++ [] ++ l.drop (rank l p + 1) = cutP l p by unfold cutP; rw [List.append_nil])
    clear hA hS hn h hh
    obtain ⟨k, hk⟩ : ∃ k, rank l p = k := ⟨_, rfl⟩
    rw [hk] at hlt HL HP
    have hkl : k ≤ 1000000 := by have := hfew.out; omega
    clear hk
    go_enter Try.func14, Try.ntmps14
    go_wp2_with fail
    refine HP.out.mono ?_
    rintro e w2 ⟨rfl, b2⟩
    have HT2 := Lib.hid (HT.out.keep b2)
    have HK2 := Lib.hid (HS.out.trans b2)
    clear h1 b2 HT HP
    go_wp2_with fail
    have hrep := replace b l [] k (k + 1) _ _ HT2.out (by omega) (by omega) (Row.nil 34 w2) (by simp) (by rw [HL.out]; exact HCS.out) (by rw [HL.out]; have := HCL.out; have := hfew.out; omega)
    rw [show ((k + 1 : Nat) : Int) = (k : Int) + 1 by omega, HL.out] at hrep
    refine hrep.mono ?_
    rintro e w3 ⟨rfl, t3, o3⟩
    clear hrep
    have HE := Lib.hid (show TbPost b w (cutP l p, 0) (.returned (.int .i64 0)) w3 from ⟨rfl, t3, (Only.keep HK2.out).trans o3⟩)
    clear t3 o3
    go_wp2
    go_ret
    exact HE.out
  · rw [if_neg hh]
    rw [show hasP l p = false by simpa using hh] at HP
    clear hA hS hn h hh
    generalize rank l p = k at *
    go_enter Try.func14, Try.ntmps14
    go_wp2_with fail
    refine HP.out.mono ?_
    rintro e w2 ⟨rfl, b2⟩
    go_wp2
    go_ret
    exact ⟨rfl, HT.out.keep b2, Only.keep (HS.out.trans b2)⟩
end Go.Proofs.Ytgocmolebanflaa
