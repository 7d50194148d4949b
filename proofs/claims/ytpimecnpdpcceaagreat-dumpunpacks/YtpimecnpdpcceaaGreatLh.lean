/- Proved: what lz's take answers, and what becomes of memory. Condition: the reader is known (Rd); there are at most 65536 bytes. -/
import Derived.Test.YtpimecnpdpcceaaGreatLg
namespace Go.Proofs.YtpimecnpdpcceaaGreat
open Go.RowKit

set_option maxRecDepth 100000 in
set_option maxHeartbeats 4000000 in
theorem ztake (b has n : Nat) (l : List Bool) (w : World) (h : Bit.Rd w b l 0) (hh : has ≤ n) (hn : n ≤ 65536) : Calls Tryz.prog 93 #[.pointer (some ⟨b, 0, none⟩), .int .i64 has, .int .i64 (n - has : Nat)] w (TkPost b w (Lz.takeF has n l)) := by
  obtain ⟨R, hR⟩ : ∃ R, R = Lz.takeF has n l := ⟨_, rfl⟩
  rw [← hR]
  obtain ⟨hz, hi⟩ := zero_of_info infoT2
  obtain ⟨m, hm3⟩ : ∃ n, n = 3 := ⟨3, rfl⟩
  have hsz : ∀ w, (Go.sizeOf 119).run Tryz.prog w = .ok m w := fun w => by rw [hm3]; exact Tryz.sizeOf119 w
  have hm0 : ¬ m = 0 := by omega
  have htn : ∀ t : Lz.Tk, (tc t).size = m := fun t => by rw [hm3]; rfl
  have HM := Lib.hid hm3
  have hlt := h.lt
  have hne : w.heap.size ≠ b := by omega
  have HA0 := Lib.hid (TAt.new w zeroT)
  have HO0 := Lib.hid (show Only b w (w.alloc (.cells (tc zeroT) 119)) from Only.keep ((Keep.refl w).alloc _))
  have hc1 := Bit.bits_at b 1 l 0 _ (h.same (kb ((Keep.refl w).alloc (.cells (tc zeroT) 119))))
  rw [takeF_eq] at hR
  generalize Bit.bitsF l 0 1 = c1 at hR hc1
  obtain ⟨bit, l1, x1⟩ := c1
  simp only at hR hc1
  have HC1 := Lib.hid hc1
  have HBZ := Lib.hid build_zero
  have HR0 := Lib.hid hR
  have HCP := Lib.hid (fun w (hr : Bit.Rd w b l1 x1) => zcopy b has n l1 x1 w hr hh hn)
  generalize n - has = K at *
  clear hc1 hm3 h hR hh hn
  go_enter Tryz.func93, Tryz.ntmps93
  go_wp2_with fail
  refine HC1.out.mono ?_
  rintro e w1 ⟨rfl, r1, o1⟩
  have HA1 := Lib.hid (HA0.out.only o1 hne)
  have HO1 := Lib.hid (HO0.out.trans (bo o1))
  have hR := HR0.out
  by_cases hbit : bit = 1
  · have hbi : (bit : Int) = 1 := by omega
    rw [if_pos hbit] at hR
    have hcp := HCP.out w1 r1
    rw [← hR] at hcp
    have HC := Lib.hid hcp
    clear hcp hR HR0 HCP r1 o1
    go_wp2_with fail
    refine HC.out.mono ?_
    obtain ⟨t, l2, x2⟩ := R
    rintro e w2 ⟨rfl, r2, o2⟩
    simp only at r2 ⊢
    have HA2 := Lib.hid (show TAt w2 w.heap.size zeroT from o2.obj HA1.out hne)
    have HO2 := Lib.hid (HO1.out.trans o2)
    have hst := HA2.out.store t
    have hld := (HA2.out.put t).whole HM.out
    have HR2 := Lib.hid r2
    clear r2 o2
    go_wp2
    refine bodyPost_ret (v := .tuple #[.agg (tc t), .int .i64 x2]) ?_ rfl ⟨rfl, fun h => (HR2.out h).other (Bit.Only.setRow _ _ _) (Ne.symm hne), bo ((ob HO2.out).rowNew _ _ (Nat.le_refl _))⟩
    simp [results, Tryz.results93, go_sem, hsz, hld]
  · have hbi : ¬ (bit : Int) = 1 := by omega
    rw [if_neg hbit] at hR
    have hc2 := Bit.bits_at b 8 l1 x1 w1 r1
    generalize Bit.bitsF l1 x1 8 = c2 at hR hc2
    obtain ⟨v, l2, x2⟩ := c2
    simp only at hR hc2
    have HC2 := Lib.hid hc2
    have HR := Lib.hid hR
    have hv : (v : Int) % 256 = ((UInt8.ofNat v).toNat : Nat) := by simp [UInt8.toNat_ofNat']
    have HBB := Lib.hid (build_byte (UInt8.ofNat v))
    clear hc2 hR r1 o1 HR0 HC1 HCP
    go_wp2_with fail
    refine HC2.out.mono ?_
    rintro e w2 ⟨rfl, r2, o2⟩
    have HA2 := Lib.hid (HA1.out.only o2 hne)
    have HO2 := Lib.hid (HO1.out.trans (bo o2))
    have HR2 := Lib.hid r2
    have HE := Lib.hid (Bit.err_at b l2 x2 w2 r2)
    clear r2 o2 HC2 HA1 HO1
    go_wp2_with fail
    refine HE.out.mono ?_
    rintro e w2 ⟨rfl, rfl⟩
    by_cases hx2 : x2 = 0
    · have hx2b : (x2 != 0) = false := by simp [hx2]
      have HRE := Lib.hid (show R = (⟨UInt8.ofNat v, 0, 0⟩, l2, 0) from by rw [HR.out, if_neg (by simp [hx2])])
      have hst := HA2.out.store ⟨UInt8.ofNat v, 0, 0⟩
      have hld := (HA2.out.put ⟨UInt8.ofNat v, 0, 0⟩).whole HM.out
      have HR3 := Lib.hid (show Bit.Rd w2 b l2 0 from by rw [← hx2]; exact HR2.out)
      clear HR HR2
      generalize UInt8.ofNat v = c at *
      go_wp2_with (first | (refine at_build [(0, .int .u8 (c.toNat : Nat))] rfl _ (HBB.out _) ?_) | fail)
      rw [HRE.out]
      refine bodyPost_ret (v := .tuple #[.agg (tc ⟨c, 0, 0⟩), .int .i64 0]) ?_ rfl ⟨rfl, fun _ => HR3.out.other (Bit.Only.setRow _ _ _) (Ne.symm hne), bo ((ob HO2.out).rowNew _ _ (Nat.le_refl _))⟩
      simp [results, Tryz.results93, go_sem, hsz, hld]
    · have hx2b : (x2 != 0) = true := by simpa using hx2
      have HRE := Lib.hid (show R = (zeroT, l2, x2) from by rw [HR.out, if_pos hx2]; rfl)
      have hst := HA2.out.store zeroT
      have hld := (HA2.out.put zeroT).whole HM.out
      clear HBB hv
      go_wp2_with (first | (refine at_build [] rfl _ (HBZ.out _) ?_) | fail)
      refine HE.out.mono ?_
      rintro e w2 ⟨rfl, rfl⟩
      go_wp2
      rw [HRE.out]
      refine bodyPost_ret (v := .tuple #[.agg (tc zeroT), .int .i64 x2]) ?_ rfl ⟨rfl, fun h => absurd h hx2, bo ((ob HO2.out).rowNew _ _ (Nat.le_refl _))⟩
      simp [results, Tryz.results93, go_sem, hsz, hld]
end Go.Proofs.YtpimecnpdpcceaaGreat
