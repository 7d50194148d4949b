/- Proved: what dump's numberBelow and whole answer, and what becomes of memory. Condition: the reader's cells are known; texts' lengths fit. -/
import Derived.Test.YtpimecnpdpcceaaGreatDp
import Derived.Test.YtpimecnpdpcceaaGreatMv
import Derived.Test.YtpimecnpdpcceaaGreatMt
import Derived.Handy
namespace Go.Proofs.YtpimecnpdpcceaaGreat
open Go.RowKit

/-- A number below a bound: the number, what was wrong. -/
def numF (s : List UInt8) (bound : Nat) (other : Int) : Nat × Int := if (V.uintF s 0).2.2 ≠ 0 then (0, (V.uintF s 0).2.2) else if bound ≤ (V.uintF s 0).1 then (0, other) else ((V.uintF s 0).1, 0)
def NumPost7 (g : Nat) (w : World) (s : List UInt8) (bound : Nat) (other : Int) (e : Ending) (w' : World) : Prop :=
  e = .returned (.tuple #[.int .u64 (numF s bound other).1, .int .i64 (numF s bound other).2]) ∧ Rd w' g (V.uintF s 0).2.1 (V.uintF s 0).2.2 ∧ Only g w w'

set_option maxRecDepth 100000 in
theorem dnum (b g bound : Nat) (other : Int) (s : List UInt8) (w : World) (hc : w.cell? ⟨b, 0, none⟩ = some (.pointer (some ⟨g, 0, none⟩))) (hb : b ≠ g) (h : Rd w g s 0) (_hbd : bound < 2 ^ 64) :
    Calls Tryz.prog 51 #[.pointer (some ⟨b, 0, none⟩), .int .u64 bound, .int .i64 other] w (NumPost7 g w s bound other) := by
  obtain ⟨R, hR⟩ : ∃ R, R = numF s bound other := ⟨_, rfl⟩
  unfold NumPost7
  rw [← hR]
  unfold numF at hR
  have hu := uint_at g s 0 w h
  have hlt := V.uintF_lt s 0
  have hbl : b < w.heap.size := World.block_lt_of_cell? w _ hc
  generalize V.uintF s 0 = c at *
  obtain ⟨n, s1, x1⟩ := c
  simp only at hR hu hlt ⊢
  have HU := Lib.hid hu
  have HR := Lib.hid hR
  clear hu hR h
  go_enter Tryz.func51, Tryz.ntmps51
  go_wp2_with fail
  refine HU.out.mono ?_
  rintro e w1 ⟨rfl, r1, o1⟩
  have hc1 : w1.cell? ⟨b, 0, none⟩ = some (.pointer (some ⟨g, 0, none⟩)) := (o1.cell (p := ⟨b, 0, none⟩) hbl hb).trans hc
  have HE := Lib.hid (err_rd g s1 x1 w1 r1)
  have HR1 := Lib.hid r1
  have HO1 := Lib.hid o1
  clear r1 o1 HU hc
  go_wp2_with fail
  refine HE.out.mono ?_
  rintro e w1 ⟨rfl, rfl⟩
  by_cases hx : x1 = 0
  · have hxb : (x1 != 0) = false := by simp [hx]
    by_cases hn : bound ≤ n
    · have hni : (bound : Int) ≤ n := by omega
      go_wp2
      go_ret2
      refine ⟨?_, HR1.out, HO1.out⟩
      rw [HR.out, if_neg (by simp [hx]), if_pos hn]
      rfl
    · have hni : ¬ (bound : Int) ≤ n := by omega
      go_wp2
      go_ret2
      refine ⟨?_, HR1.out, HO1.out⟩
      rw [HR.out, if_neg (by simp [hx]), if_neg hn]
      rfl
  · have hxb : (x1 != 0) = true := by simpa using hx
    go_wp2
    go_ret2
    refine ⟨?_, HR1.out, HO1.out⟩
    rw [HR.out, if_pos hx]
    rfl

def wholeV (s : List UInt8) : Px × Int := match wholeP s with
  | some p => (p, 0)
  | none => (zeroP, 4)
theorem wholeV_len (s : List UInt8) : L16 (wholeV s).1 := by
  unfold wholeV
  cases h : wholeP s with
  | none => rfl
  | some p => exact (whole_some h).2.1
theorem info24b : (Tryz.prog.info? 41).map (fun i => (i.zero, i.size)) = some (some (.agg (pc zeroP)), 18) := by kernel_rfl
theorem build_zeroP (w : World) : (Instr.build 41 #[]).run Tryz.prog w = .ok (.agg (pc zeroP)) w := by kernel_rfl

set_option maxRecDepth 100000 in
set_option maxHeartbeats 1000000 in
theorem dwhole (s : List UInt8) (hs : s.length ≤ 1000000) : GivesK Tryz.prog 113 #[.string ⟨s.toArray⟩] (.tuple #[.agg (pc (wholeV s).1), .int .i64 (wholeV s).2]) := by
  intro w
  obtain ⟨R, hR⟩ : ∃ R, R = wholeV s := ⟨_, rfl⟩
  rw [← hR]
  have HR := Lib.hid hR
  clear hR
  obtain ⟨hz, hi⟩ := zero_of_info info24b
  obtain ⟨n, hn⟩ : ∃ n, n = 18 := ⟨18, rfl⟩
  have hsz : ∀ w, (Go.sizeOf 41).run Tryz.prog w = .ok n w := fun w => by rw [hn]; exact Tryz.sizeOf41 w
  have hn0 : ¬ n = 0 := by omega
  have hpn : ∀ p : Px, L16 p → (pc p).size = n := fun p hp => by rw [hn]; exact pc_size p hp
  have hpz : (pc zeroP).size = n := hpn zeroP rfl
  have HN := Lib.hid hn
  have HPN := Lib.hid hpn
  have HBZ := Lib.hid build_zeroP
  have hrd := fun (g : Nat) (w1 : World) (r1 : Rd w1 g s 0) => read_at g s 0 w1 r1
  have HTL := Lib.hid (takeF_len s 0)
  have HRF := Lib.hid (show readF s 0 = if (takeF s 0).2.1 = 0 ∨ (takeF s 0).2.2.2 ≠ 0 then takeF s 0 else ((takeF s 0).1, (takeF s 0).2.1, s, 0) from rfl)
  have HFW := Lib.hid (fun h => (take_fwd (b := s) h).2.2)
  have HWH : Hid (wholeV s = if (takeF s 0).2.1 = 0 ∧ (takeF s 0).2.2.1 = [] then ((takeF s 0).1, 0) else (zeroP, 4)) := by
    show wholeV s = _
    unfold wholeV wholeP
    split <;> rename_i h <;> split at h <;> simp_all
  have hq1 : (readF s 0).1 = (takeF s 0).1 ∧ (readF s 0).2.1 = (takeF s 0).2.1 ∧ ((takeF s 0).2.1 = 0 → (readF s 0).2.2.1 = (takeF s 0).2.2.1 ∧ (readF s 0).2.2.2 = 0) := by
    rw [HRF.out]
    by_cases h0 : (takeF s 0).2.1 = 0
    · rw [if_pos (.inl h0)]
      exact ⟨rfl, rfl, fun _ => ⟨rfl, HFW.out h0⟩⟩
    · refine ⟨?_, ?_, fun h => absurd h h0⟩ <;> split <;> rfl
  generalize readF s 0 = q at hq1 hrd
  obtain ⟨p, x, s1, y⟩ := q
  simp only at hq1
  obtain ⟨e1, e2, e3⟩ := hq1
  rw [← e1, ← e2] at HWH
  rw [← e1] at HTL
  rw [← e2] at e3
  have HRdF := Lib.hid hrd
  have HE3 := Lib.hid e3
  clear hrd e1 e2 e3 HRF HFW
  obtain ⟨hA, hS⟩ := one_at w zeroP zeroP_len
  have HA := Lib.hid hA
  have HS := Lib.hid hS.keep
  have HNew := Lib.hid (newreader s (w.alloc (.cells (pc zeroP) 41)) (by unfold maxLen; omega))
  clear hA hS hn hpn
  go_enter Tryz.func113, Tryz.ntmps113
  go_wp2_with fail
  refine HNew.out.mono ?_
  rintro e w1 ⟨g, rfl, hg, r1, b1⟩
  have HK1 := Lib.hid (HS.out.trans (show Keep _ w1 from b1))
  have HA1 := Lib.hid (show At w1 w.heap.size zeroP from ⟨Keep.obj b1 HA.out.block, rfl⟩)
  have HGS := Lib.hid (show g = w.heap.size + 1 from by rw [hg]; simp)
  have HRd := Lib.hid (HRdF.out g w1 r1)
  clear r1 b1 hg HNew HRdF
  go_wp2_with fail
  refine HRd.out.mono ?_
  rintro e w2 ⟨rfl, r2, o2⟩
  simp only at r2 ⊢
  have HK2 := Lib.hid (Only.made HK1.out o2 (by rw [HGS.out]; omega))
  have HA2 := Lib.hid (HA1.out.only o2 (by rw [HGS.out]; omega))
  obtain ⟨hB, hSB⟩ := one_at w2 zeroP zeroP_len
  have hp16 : L16 p := HTL.out
  have HP := Lib.hid (hB.put p hp16)
  have hst := hB.store p hp16
  have hpp : (pc p).size = n := HPN.out p hp16
  have HK3 := Lib.hid (hSB.keep.setRow w2.heap.size (pc p) (Nat.le_refl _))
  have HA3 := Lib.hid (show At ((w2.alloc (.cells (pc zeroP) 41)).setRow w2.heap.size (pc p)) w.heap.size zeroP from ⟨HK3.out.obj HA2.out.block, rfl⟩)
  have HR3 := Lib.hid (r2.below HK3.out)
  have hld := HP.out.whole HN.out
  have HKW := Lib.hid (HK2.out.trans HK3.out)
  clear r2 o2 hB hSB
  by_cases hx : x = 0
  · have hxb : (x != 0) = false := by simp [hx]
    obtain ⟨e4, e5⟩ := HE3.out hx
    rw [e4, e5] at HR3
    have HD := Lib.hid (done_at g (takeF s 0).2.2.1 0 _ HR3.out)
    have hdn : V.doneF (takeF s 0).2.2.1 0 = if (takeF s 0).2.2.1 = [] then 0 else 4 := by
      unfold V.doneF
      rw [if_neg (by simp)]
      cases (takeF s 0).2.2.1 <;> simp
    rw [hdn] at HD
    have HW2 := Lib.hid (show wholeV s = if (takeF s 0).2.2.1 = [] then (p, 0) else (zeroP, 4) from by rw [HWH.out]; simp [hx])
    clear hdn e4 e5
    go_wp2_with fail
    refine HD.out.mono ?_
    rintro e w4 ⟨rfl, rfl⟩
    by_cases hr : (takeF s 0).2.2.1 = []
    · rw [if_pos hr]
      have hst2 := HA3.out.store p hp16
      have hld2 := (HA3.out.put p hp16).whole HN.out
      go_wp2
      rw [HR.out, HW2.out, if_pos hr]
      refine bodyPost_ret (v := .tuple #[.agg (pc p), .int .i64 0]) ?_ rfl ⟨rfl, HKW.out.setRow _ _ (Nat.le_refl _)⟩
      simp [results, Tryz.results113, go_sem, hsz, hld2]
    · rw [if_neg hr]
      have hst2 := HA3.out.store zeroP rfl
      have hld2 := (HA3.out.put zeroP rfl).whole HN.out
      go_wp2_with (first | (refine at_build [] rfl _ (HBZ.out _) ?_) | fail)
      rw [HR.out, HW2.out, if_neg hr]
      refine bodyPost_ret (v := .tuple #[.agg (pc zeroP), .int .i64 4]) ?_ rfl ⟨rfl, HKW.out.setRow _ _ (Nat.le_refl _)⟩
      simp [results, Tryz.results113, go_sem, hsz, hld2]
  · have hxb : (x != 0) = true := by simpa using hx
    have HW2 := Lib.hid (show wholeV s = (zeroP, 4) from by rw [HWH.out]; simp [hx])
    have hst2 := HA3.out.store zeroP rfl
    have hld2 := (HA3.out.put zeroP rfl).whole HN.out
    go_wp2_with (first | (refine at_build [] rfl _ (HBZ.out _) ?_) | fail)
    rw [HR.out, HW2.out]
    refine bodyPost_ret (v := .tuple #[.agg (pc zeroP), .int .i64 4]) ?_ rfl ⟨rfl, HKW.out.setRow _ _ (Nat.le_refl _)⟩
    simp [results, Tryz.results113, go_sem, hsz, hld2]
end Go.Proofs.YtpimecnpdpcceaaGreat
