/- Proved: what dump's nextRoute answers, and what becomes of memory. Condition: the reader's cells are known (Dr). -/
import Derived.Test.YtpimecnpdpcceaaGreatDf
import Derived.Test.YtpimecnpdpcceaaGreatMt
namespace Go.Proofs.YtpimecnpdpcceaaGreat
open Go.RowKit

theorem build_zeroR (w : World) : (Instr.build 44 #[]).run Tryz.prog w = .ok (.agg (rc zeroR)) w := build_no w
theorem build_all (p : Px) (hp : p.addr.length = 16) (m s : Int) (w : World) : (Instr.build 44 #[(0, .agg (pc p)), (1, .int .i64 m), (2, .int .u32 s)]).run Tryz.prog w = .ok (.agg (rc ⟨p, m, s, hp⟩)) w := by
  obtain ⟨six, l, n⟩ := p
  obtain ⟨c0, c1, c2, c3, c4, c5, c6, c7, c8, c9, c10, c11, c12, c13, c14, c15, rfl⟩ := list16 l hp
  kernel_rfl
/-- A route, in words of the reader. -/
def routeF (prev : Option Px) (last s : List UInt8) : Except Int (Dm.Rw Px × List UInt8 × List UInt8) := match prefF prev last s with
  | .error x => .error x
  | .ok (p, c, s2) =>
    let (m, s3, x3) := V.uintF s2 0
    if x3 ≠ 0 then .error x3 else if 65535 ≤ m then .error 1 else
    let (q, s4, x4) := V.uintF s3 0
    if x4 ≠ 0 then .error x4 else if 4294967296 ≤ q then .error 7 else .ok (⟨p, m, q⟩, c, s4)
theorem routeF_eq (prev : Option Px) (last s : List UInt8) : routeF prev last s = Dm.readOne codP prev last s := by
  unfold routeF prefF Dm.readOne
  generalize V.uintF s 0 = c
  obtain ⟨k, s1, x1⟩ := c
  simp only
  by_cases h1 : x1 ≠ 0
  · rw [if_pos h1, if_pos h1]
  · rw [if_neg h1, if_neg h1]
    by_cases h2 : last.length < k
    · rw [if_pos h2, if_pos h2]
    · rw [if_neg h2, if_neg h2]
      generalize V.textF s1 0 17 = c
      obtain ⟨t, s2, x2⟩ := c
      simp only
      by_cases h3 : x2 ≠ 0
      · rw [if_pos h3, if_pos h3]
      · rw [if_neg h3, if_neg h3]
        rw [show codP.whole (last.take k ++ t) = wholeP (last.take k ++ t) from rfl]
        cases wholeP (last.take k ++ t) with
        | none => rfl
        | some p =>
          simp only
          by_cases h4 : Dm.com last (last.take k ++ t) ≠ k
          · rw [if_pos h4, if_pos h4]
          · rw [if_neg h4, if_neg h4]
            by_cases h5 : Dm.behind codP prev p = false
            · rw [if_pos h5, if_pos h5]
            · rw [if_neg h5, if_neg h5]
def RoutePost (b g : Nat) (w : World) (r : Except Int (Dm.Rw Px × List UInt8 × List UInt8)) (e : Ending) (w' : World) : Prop := match r with
  | .error x => e = .returned (.tuple #[.agg (rc zeroR), .int .i64 x]) ∧ x ≠ 0 ∧ Two b g w w'
  | .ok (x, c, s) => e = .returned (.tuple #[.agg (rc (rtOf x)), .int .i64 0]) ∧ L16 x.p ∧ c ≠ [] ∧ Dr w' b g s c x.p ∧ Two b g w w'

set_option maxRecDepth 100000 in
set_option maxHeartbeats 4000000 in
theorem droute (b g : Nat) (s last : List UInt8) (P : Px) (w : World) (h : Dr w b g s last P) : Calls Tryz.prog 52 #[.pointer (some ⟨b, 0, none⟩)] w (RoutePost b g w (routeF (prevOf last P) last s)) := by
  obtain ⟨R, hR⟩ : ∃ R, R = routeF (prevOf last P) last s := ⟨_, rfl⟩
  rw [← hR]
  obtain ⟨hz, hi⟩ := zero_of_info info34b
  obtain ⟨hz2, hi2⟩ := zero_of_info info24b
  obtain ⟨n, hn⟩ : ∃ n, n = 20 := ⟨20, rfl⟩
  have hsz : ∀ w, (Go.sizeOf 44).run Tryz.prog w = .ok n w := fun w => by rw [hn]; exact Tryz.sizeOf44 w
  have hn0 : ¬ n = 0 := by omega
  have hrn : ∀ r : Rt, (rc r).size = n := fun r => by rw [hn]; exact rc_size r
  obtain ⟨n2, hn2⟩ : ∃ n, n = 18 := ⟨18, rfl⟩
  have hsz2 : ∀ w, (Go.sizeOf 41).run Tryz.prog w = .ok n2 w := fun w => by rw [hn2]; exact Tryz.sizeOf41 w
  have hn20 : ¬ n2 = 0 := by omega
  have HPN := Lib.hid (fun (p : Px) (hp : L16 p) => show (pc p).size = n2 from by rw [hn2]; exact pc_size p hp)
  have HN := Lib.hid hn
  have HN2 := Lib.hid hn2
  have HBZ := Lib.hid build_zeroR
  obtain ⟨hblt, hglt⟩ := h.lt
  have hbg := h.ne
  have HA0 := Lib.hid (RAt.new w zeroR)
  have hk0 : Keep w (w.alloc (.cells (rc zeroR) 44)) := (Keep.refl _).alloc _
  have HT0 := Lib.hid (show Two b g w (w.alloc (.cells (rc zeroR) 44)) from Two.keep hk0)
  have hp0 := dpref b g s last P _ (h.keep hk0)
  unfold routeF at hR
  generalize prefF (prevOf last P) last s = c at hR hp0
  have HP0 := Lib.hid hp0
  have HR := Lib.hid hR
  clear hR hp0 hk0 hn hn2 h
  cases c with
  | error x =>
    have HR1 := Lib.hid (show R = .error x from HR.out)
    go_enter Tryz.func52, Tryz.ntmps52
    go_wp2_with fail
    refine HP0.out.mono ?_
    rintro e w1 ⟨rfl, hx, t1⟩
    have hxb : (x != 0) = true := by simpa using hx
    have HA1 := Lib.hid (show RAt w1 w.heap.size zeroR from t1.obj HA0.out (by omega) (by omega))
    have HT1 := Lib.hid (HT0.out.trans t1)
    obtain ⟨hB, hSB⟩ := one_at w1 zeroP zeroP_len
    have hst := hB.store zeroP rfl
    have hpz := HPN.out zeroP rfl
    have HK2 := Lib.hid (hSB.keep.setRow w1.heap.size (pc zeroP) (Nat.le_refl _))
    have HA2 := Lib.hid (HA1.out.keep HK2.out)
    have HT2 := Lib.hid (HT1.out.trans (Two.keep HK2.out))
    clear t1 hB hSB HP0
    have hstE := HA2.out.store zeroR
    have hldE := (HA2.out.put zeroR).whole HN.out
    go_wp2_with (first | (refine at_build [] rfl _ (HBZ.out _) ?_) | fail)
    rw [HR1.out]
    refine bodyPost_ret (v := .tuple #[.agg (rc zeroR), .int .i64 (x)]) ?_ rfl (show RoutePost b g w (.error (x)) _ _ from ⟨rfl, hx, HT2.out.rowNew _ _ (Nat.le_refl _)⟩)
    simp [results, Tryz.results52, go_sem, hsz, hldE]
  | ok y =>
    obtain ⟨p, c, s2⟩ := y
    have hR := HR.out
    simp only at hR
    have hulen := V.uintF_lt s2 0
    have HNum := Lib.hid (fun (w : World) (hc : w.cell? ⟨b, 0, none⟩ = some (.pointer (some ⟨g, 0, none⟩))) (hr : Rd w g s2 0) => dnum b g 65535 1 s2 w hc hbg hr (by omega))
    unfold NumPost7 numF at HNum
    generalize V.uintF s2 0 = u at hR HNum hulen
    obtain ⟨m, s3, x3⟩ := u
    simp only at hR HNum hulen
    have HR1 := Lib.hid hR
    clear hR HR
    go_enter Tryz.func52, Tryz.ntmps52
    go_wp2_with fail
    refine HP0.out.mono ?_
    rintro e w1 ⟨rfl, hp16, hcne, d1, t1⟩
    have HA1 := Lib.hid (show RAt w1 w.heap.size zeroR from t1.obj HA0.out (by omega) (by omega))
    have HT1 := Lib.hid (HT0.out.trans t1)
    obtain ⟨hB, hSB⟩ := one_at w1 zeroP zeroP_len
    have hst := hB.store p hp16
    have hpz := HPN.out zeroP rfl
    have hpp := HPN.out p hp16
    have HB2 := Lib.hid (hB.put p hp16)
    have HK2 := Lib.hid (hSB.keep.setRow w1.heap.size (pc p) (Nat.le_refl _))
    have HA2 := Lib.hid (HA1.out.keep HK2.out)
    have HT2 := Lib.hid (HT1.out.trans (Two.keep HK2.out))
    have HD2 := Lib.hid (d1.keep HK2.out)
    have HCN := Lib.hid hcne
    have hw1 : w.heap.size < w1.heap.size := block_lt HA1.out
    clear t1 d1 hB hSB HP0 hcne HA1 HT1 HA0 HT0
    go_wp2_with fail
    refine (HNum.out _ HD2.out.c0 HD2.out.rd).mono ?_
    rintro e w3 ⟨rfl, r3, o3⟩
    have HA3 := Lib.hid (show RAt w3 w.heap.size zeroR from o3.obj HA2.out (by omega))
    have HB3 := Lib.hid (show At w3 w1.heap.size p from ⟨o3.obj HB2.out.block (by omega), hp16⟩)
    have HT3 := Lib.hid (HT2.out.trans (Two.right o3))
    have HO3 := Lib.hid o3
    have HR3 := Lib.hid r3
    clear r3 o3 hst HA2 HB2 HT2 HNum
    by_cases hx3 : x3 = 0
    · have HRd3 := Lib.hid (show Rd w3 g s3 0 from by rw [← hx3]; exact HR3.out)
      have HD3 := Lib.hid (HD2.out.num HO3.out HRd3.out)
      rw [if_neg (by simp [hx3])]
      by_cases hm : 65535 ≤ m
      · rw [if_pos hm]
        have HR2 := Lib.hid (show R = .error 1 from by rw [HR1.out, if_neg (by simp [hx3]), if_pos hm])
        have hstE := HA3.out.store zeroR
        have hldE := (HA3.out.put zeroR).whole HN.out
        go_wp2_with (first | (refine at_build [] rfl _ (HBZ.out _) ?_) | fail)
        rw [HR2.out]
        refine bodyPost_ret (v := .tuple #[.agg (rc zeroR), .int .i64 (1)]) ?_ rfl (show RoutePost b g w (.error (1)) _ _ from ⟨rfl, by decide, HT3.out.rowNew _ _ (Nat.le_refl _)⟩)
        simp [results, Tryz.results52, go_sem, hsz, hldE]
      · rw [if_neg hm]
        have hR := HR1.out
        rw [if_neg (by simp [hx3]), if_neg hm] at hR
        have HNum := Lib.hid (dnum b g 4294967296 7 s3 w3 HD3.out.c0 hbg HD3.out.rd (by omega))
        unfold NumPost7 numF at HNum
        have hulen2 := V.uintF_lt s3 0
        generalize V.uintF s3 0 = u at hR HNum hulen2
        obtain ⟨q, s4, x4⟩ := u
        simp only at hR HNum hulen2
        have HR2 := Lib.hid hR
        clear hR HR1 HO3 HR3 HD2
        go_wp2_with fail
        refine HNum.out.mono ?_
        rintro e w4 ⟨rfl, r4, o4⟩
        have HA4 := Lib.hid (show RAt w4 w.heap.size zeroR from o4.obj HA3.out (by omega))
        have HB4 := Lib.hid (show At w4 w1.heap.size p from ⟨o4.obj HB3.out.block (by omega), hp16⟩)
        have HT4 := Lib.hid (HT3.out.trans (Two.right o4))
        have HO4 := Lib.hid o4
        have HR4 := Lib.hid r4
        clear r4 o4 HA3 HB3 HT3 HNum
        by_cases hx4 : x4 = 0
        · have HRd4 := Lib.hid (show Rd w4 g s4 0 from by rw [← hx4]; exact HR4.out)
          have HD4 := Lib.hid (HD3.out.num HO4.out HRd4.out)
          rw [if_neg (by simp [hx4])]
          by_cases hq : 4294967296 ≤ q
          · rw [if_pos hq]
            have HRE := Lib.hid (show R = .error 7 from by rw [HR2.out, if_neg (by simp [hx4]), if_pos hq])
            have hstE := HA4.out.store zeroR
            have hldE := (HA4.out.put zeroR).whole HN.out
            go_wp2_with (first | (refine at_build [] rfl _ (HBZ.out _) ?_) | fail)
            rw [HRE.out]
            refine bodyPost_ret (v := .tuple #[.agg (rc zeroR), .int .i64 (7)]) ?_ rfl (show RoutePost b g w (.error (7)) _ _ from ⟨rfl, by decide, HT4.out.rowNew _ _ (Nat.le_refl _)⟩)
            simp [results, Tryz.results52, go_sem, hsz, hldE]
          · rw [if_neg hq]
            have HRE := Lib.hid (show R = .ok (⟨p, m, q⟩, c, s4) from by rw [HR2.out, if_neg (by simp [hx4]), if_neg hq])
            have HBA := Lib.hid (fun w => build_all p hp16 m q w)
            have HRT := Lib.hid (show rtOf ⟨p, m, q⟩ = ⟨p, m, q, hp16⟩ from dif_pos hp16)
            have f1 := HB4.out.whole HN2.out
            have f2 := HA4.out.store ⟨p, m, q, hp16⟩
            have f3 := (HA4.out.put ⟨p, m, q, hp16⟩).whole HN.out
            have HDn := Lib.hid (show Dr (w4.setRow w.heap.size (rc ⟨p, m, q, hp16⟩)) b g s4 c p from ⟨setRow_old HD4.out.block _ _ (by omega), HD4.out.rd.row _ _ (by omega), HD4.out.ne, HD4.out.len, HD4.out.short⟩)
            have HTn := Lib.hid (HT4.out.rowNew w.heap.size (rc ⟨p, m, q, hp16⟩) (Nat.le_refl _))
            generalize hX : (⟨p, m, q, hp16⟩ : Rt) = X at *
            have hmi : (m : Int) < 65535 := by omega
            have hqi : (q : Int) < 4294967296 := by omega
            go_wp2_with (first | (refine at_build [(0, .agg (pc p)), (1, .int .i64 (m : Nat)), (2, .int .u32 (q : Nat))] rfl _ (HBA.out _) ?_) | fail)
            rw [HRE.out]
            refine bodyPost_ret (v := .tuple #[.agg (rc X), .int .i64 0]) ?_ rfl (show RoutePost b g w (.ok (⟨p, m, q⟩, c, s4)) _ _ from ⟨by rw [HRT.out], hp16, HCN.out, HDn.out, HTn.out⟩)
            simp [results, Tryz.results52, go_sem, hsz, f3]
        · have hx4b : (x4 != 0) = true := by simpa using hx4
          rw [if_pos hx4]
          have HRE := Lib.hid (show R = .error x4 from by rw [HR2.out, if_pos hx4])
          have hstE := HA4.out.store zeroR
          have hldE := (HA4.out.put zeroR).whole HN.out
          go_wp2_with (first | (refine at_build [] rfl _ (HBZ.out _) ?_) | fail)
          rw [HRE.out]
          refine bodyPost_ret (v := .tuple #[.agg (rc zeroR), .int .i64 (x4)]) ?_ rfl (show RoutePost b g w (.error (x4)) _ _ from ⟨rfl, hx4, HT4.out.rowNew _ _ (Nat.le_refl _)⟩)
          simp [results, Tryz.results52, go_sem, hsz, hldE]
    · have hx3b : (x3 != 0) = true := by simpa using hx3
      rw [if_pos hx3]
      have HR2 := Lib.hid (show R = .error x3 from by rw [HR1.out, if_pos hx3])
      have hstE := HA3.out.store zeroR
      have hldE := (HA3.out.put zeroR).whole HN.out
      go_wp2_with (first | (refine at_build [] rfl _ (HBZ.out _) ?_) | fail)
      rw [HR2.out]
      refine bodyPost_ret (v := .tuple #[.agg (rc zeroR), .int .i64 (x3)]) ?_ rfl (show RoutePost b g w (.error (x3)) _ _ from ⟨rfl, hx3, HT3.out.rowNew _ _ (Nat.le_refl _)⟩)
      simp [results, Tryz.results52, go_sem, hsz, hldE]
end Go.Proofs.YtpimecnpdpcceaaGreat
