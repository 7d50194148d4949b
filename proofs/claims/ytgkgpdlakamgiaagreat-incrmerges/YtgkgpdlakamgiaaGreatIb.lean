/- Proved: what incr's numberBelow, nextKind and nextChange answer, and what becomes of memory. Condition: the reader's cells are known (Rd). -/
import Derived.Test.YtgkgpdlakamgiaaGreatIa
namespace Go.Proofs.YtgkgpdlakamgiaaGreat
open Go.RowKit

/-- A number below a bound: the number, what was wrong. -/
def numF (s : List UInt8) (bound : Nat) (other : Int) : Nat × Int := if (V.uintF s 0).2.2 ≠ 0 then (0, (V.uintF s 0).2.2) else if bound ≤ (V.uintF s 0).1 then (0, other) else ((V.uintF s 0).1, 0)
def NumPost7 (g : Nat) (w : World) (s : List UInt8) (bound : Nat) (other : Int) (e : Ending) (w' : World) : Prop :=
  e = .returned (.tuple #[.int .u64 (numF s bound other).1, .int .i64 (numF s bound other).2]) ∧ Rd w' g (V.uintF s 0).2.1 (V.uintF s 0).2.2 ∧ Only g w w'

set_option maxRecDepth 100000 in
theorem inum (g bound : Nat) (other : Int) (s : List UInt8) (w : World) (h : Rd w g s 0) (_hbd : bound < 2 ^ 64) :
    Calls Tryz.prog 32 #[.pointer (some ⟨g, 0, none⟩), .int .u64 bound, .int .i64 other] w (NumPost7 g w s bound other) := by
  obtain ⟨R, hR⟩ : ∃ R, R = numF s bound other := ⟨_, rfl⟩
  unfold NumPost7
  rw [← hR]
  unfold numF at hR
  have hu := uint_at g s 0 w h
  have hlt := V.uintF_lt s 0
  generalize V.uintF s 0 = c at *
  obtain ⟨n, s1, x1⟩ := c
  simp only at hR hu hlt ⊢
  have HU := Lib.hid hu
  have HR := Lib.hid hR
  clear hu hR h
  go_enter Tryz.func32, Tryz.ntmps32
  go_wp2_with fail
  refine HU.out.mono ?_
  rintro e w1 ⟨rfl, r1, o1⟩
  have HE := Lib.hid (err_rd g s1 x1 w1 r1)
  have HR1 := Lib.hid r1
  have HO1 := Lib.hid o1
  clear r1 o1 HU
  go_wp2_with fail
  refine HE.out.mono ?_
  rintro e w1 ⟨rfl, rfl⟩
  by_cases hx : x1 = 0
  · have hxb : (x1 != 0) = false := by simp [hx]
    by_cases hn : bound ≤ n
    · have hni : (bound : Int) ≤ n := by omega
      go_wp2
      go_ret2
      refine ⟨?_, HR1.out, HO1.out⟩
      rw [HR.out, if_neg (by simp [hx]), if_pos hn]
      rfl
    · have hni : ¬ (bound : Int) ≤ n := by omega
      go_wp2
      go_ret2
      refine ⟨?_, HR1.out, HO1.out⟩
      rw [HR.out, if_neg (by simp [hx]), if_neg hn]
      rfl
  · have hxb : (x1 != 0) = true := by simpa using hx
    go_wp2
    go_ret2
    refine ⟨?_, HR1.out, HO1.out⟩
    rw [HR.out, if_pos hx]
    rfl

/-- A kind of change. -/
def kindF (s : List UInt8) : Int × Int := if (V.byteF s 0).2.2 ≠ 0 then (0, (V.byteF s 0).2.2) else if 1 ≤ (V.byteF s 0).1.toNat ∧ (V.byteF s 0).1.toNat ≤ 3 then (((V.byteF s 0).1.toNat : Nat), 0) else (0, 4)
set_option maxRecDepth 100000 in
theorem ikind (g : Nat) (s : List UInt8) (w : World) (h : Rd w g s 0) :
    Calls Tryz.prog 68 #[.pointer (some ⟨g, 0, none⟩)] w fun e w' => e = .returned (.tuple #[.int .i64 (kindF s).1, .int .i64 (kindF s).2]) ∧ Rd w' g (V.byteF s 0).2.1 (V.byteF s 0).2.2 ∧ Only g w w' := by
  obtain ⟨R, hR⟩ : ∃ R, R = kindF s := ⟨_, rfl⟩
  rw [← hR]
  unfold kindF at hR
  have hu := byte_at g s 0 w h
  generalize V.byteF s 0 = c at *
  obtain ⟨c, s1, x1⟩ := c
  simp only at hR hu ⊢
  have hc := c.toNat_lt
  generalize c.toNat = n at *
  have HU := Lib.hid hu
  have HR := Lib.hid hR
  clear hu hR h
  go_enter Tryz.func68, Tryz.ntmps68
  go_wp2_with fail
  refine HU.out.mono ?_
  rintro e w1 ⟨rfl, r1, o1⟩
  have HE := Lib.hid (err_rd g s1 x1 w1 r1)
  have HR1 := Lib.hid r1
  have HO1 := Lib.hid o1
  clear r1 o1 HU
  go_wp2_with fail
  refine HE.out.mono ?_
  rintro e w1 ⟨rfl, rfl⟩
  by_cases hx : x1 = 0
  · have hxb : (x1 != 0) = false := by simp [hx]
    by_cases hn : 1 ≤ n ∧ n ≤ 3
    · have HR2 := Lib.hid (show R = (((n : Nat) : Int), (0 : Int)) from by rw [HR.out, if_neg (by simp [hx]), if_pos hn])
      rcases (by omega : n = 1 ∨ n = 2 ∨ n = 3) with rfl | rfl | rfl
      · clear hn
        go_wp2
        go_ret2
        exact ⟨by rw [HR2.out]; rfl, HR1.out, HO1.out⟩
      · clear hn
        go_wp2
        go_ret2
        exact ⟨by rw [HR2.out]; rfl, HR1.out, HO1.out⟩
      · clear hn
        go_wp2
        go_ret2
        exact ⟨by rw [HR2.out]; rfl, HR1.out, HO1.out⟩
    · have HR2 := Lib.hid (show R = (0, 4) from by rw [HR.out, if_neg (by simp [hx]), if_neg hn])
      have n1 : ((n : Int) == 1) = false := by simp; omega
      have n2 : ((n : Int) == 2) = false := by simp; omega
      have n3 : ((n : Int) == 3) = false := by simp; omega
      clear hn
      go_wp2
      go_ret2
      exact ⟨by rw [HR2.out]; rfl, HR1.out, HO1.out⟩
  · have hxb : (x1 != 0) = true := by simpa using hx
    have HR2 := Lib.hid (show R = (0, x1) from by rw [HR.out, if_pos hx])
    go_wp2
    go_ret2
    exact ⟨by rw [HR2.out]; rfl, HR1.out, HO1.out⟩

theorem info24b : (Tryz.prog.info? 54).map (fun i => (i.zero, i.size)) = some (some (.agg (pc zeroP)), 18) := by kernel_rfl
theorem build_zeroI (w : World) : (Instr.build 59 #[]).run Tryz.prog w = .ok (.agg (ic zeroI)) w := by
  refine run_build w 59 _ _ ?_
  rw [built43]
  rfl
theorem build_all (p : Px) (hp : p.addr.length = 16) (m s : Int) (w : World) : (Instr.build 57 #[(0, .agg (pc p)), (1, .int .i64 m), (2, .int .u32 s)]).run Tryz.prog w = .ok (.agg (rc ⟨p, m, s, hp⟩)) w := by
  obtain ⟨six, l, n⟩ := p
  obtain ⟨c0, c1, c2, c3, c4, c5, c6, c7, c8, c9, c10, c11, c12, c13, c14, c15, rfl⟩ := list16 l hp
  kernel_rfl
def ChPost (g : Nat) (w : World) (r : Except Int (Ic × List UInt8)) (e : Ending) (w' : World) : Prop := match r with
  | .error x => e = .returned (.tuple #[.agg (ic zeroI), .int .i64 x]) ∧ x ≠ 0 ∧ Only g w w'
  | .ok (i, s) => e = .returned (.tuple #[.agg (ic i), .int .i64 0]) ∧ Rd w' g s 0 ∧ Only g w w'
theorem IAt.only {w w' : World} {b g : Nat} {i : Ic} (h : IAt w b i) (k : Only g w w') (hb : b ≠ g) : IAt w' b i := k.obj h hb

set_option maxRecDepth 100000 in
set_option maxHeartbeats 4000000 in
theorem ichange (g : Nat) (s : List UInt8) (w : World) (h : Rd w g s 0) : Calls Tryz.prog 33 #[.pointer (some ⟨g, 0, none⟩)] w (ChPost g w (chF s)) := by
  obtain ⟨R, hR⟩ : ∃ R, R = chF s := ⟨_, rfl⟩
  rw [← hR]
  obtain ⟨hz, hi⟩ := zero_of_info info43b
  obtain ⟨hz2, hi2⟩ := zero_of_info info24b
  obtain ⟨n, hn⟩ : ∃ n, n = 21 := ⟨21, rfl⟩
  have hsz : ∀ w, (Go.sizeOf 59).run Tryz.prog w = .ok n w := fun w => by rw [hn]; exact Tryz.sizeOf59 w
  have hn0 : ¬ n = 0 := by omega
  have hrn : ∀ i : Ic, (ic i).size = n := fun i => by rw [hn]; exact ic_size i
  obtain ⟨n2, hn2⟩ : ∃ n, n = 18 := ⟨18, rfl⟩
  have hsz2 : ∀ w, (Go.sizeOf 54).run Tryz.prog w = .ok n2 w := fun w => by rw [hn2]; exact Tryz.sizeOf54 w
  have hn20 : ¬ n2 = 0 := by omega
  have HPN := Lib.hid (fun (p : Px) (hp : L16 p) => show (pc p).size = n2 from by rw [hn2]; exact pc_size p hp)
  have HN := Lib.hid hn
  have HN2 := Lib.hid hn2
  have HBZ := Lib.hid build_zeroI
  have hglt := h.lt
  have HA0 := Lib.hid (IAt.new w zeroI)
  have HK0 := Lib.hid (show Keep w (w.alloc (.cells (ic zeroI) 59)) from (Keep.refl _).alloc _)
  have HT0 := Lib.hid (show Only g w (w.alloc (.cells (ic zeroI) 59)) from Only.keep HK0.out)
  have hki := ikind g s _ (h.below HK0.out)
  unfold chF at hR
  unfold kindF at hki
  generalize V.byteF s 0 = c at hR hki
  obtain ⟨c, s1, x1⟩ := c
  simp only at hR hki
  have hcl := c.toNat_lt
  generalize c.toNat = k at *
  have HKi := Lib.hid hki
  have HR := Lib.hid hR
  clear hki hR hn hn2 h
  by_cases hx1 : x1 = 0
  · subst hx1
    rw [if_neg (by simp)] at HKi HR
    by_cases hk : 1 ≤ k ∧ k ≤ 3
    · rw [if_pos hk] at HKi
      rw [if_neg (by simpa using hk)] at HR
      have hrd := fun (w1 : World) (r1 : Rd w1 g s1 0) => read_at g s1 0 w1 r1
      have HTL := Lib.hid (takeF_len s1 0)
      have hq1 : (readF s1 0).1 = (takeF s1 0).1 ∧ (readF s1 0).2.1 = (takeF s1 0).2.1 ∧ ((takeF s1 0).2.1 = 0 → (readF s1 0).2.2.1 = (takeF s1 0).2.2.1 ∧ (readF s1 0).2.2.2 = 0) := by
        unfold readF
        by_cases h0 : (takeF s1 0).2.1 = 0
        · rw [if_pos (.inl h0)]
          exact ⟨rfl, rfl, fun _ => ⟨rfl, (take_fwd h0).2.2⟩⟩
        · refine ⟨?_, ?_, fun h => absurd h h0⟩ <;> split <;> rfl
      have hR := HR.out
      generalize readF s1 0 = q at hq1 hrd
      obtain ⟨p, x2, s2, y2⟩ := q
      simp only at hq1
      obtain ⟨e1, e2, e3⟩ := hq1
      have HRd := Lib.hid hrd
      have hp16 : p.addr.length = 16 := by rw [e1]; exact HTL.out
      by_cases hx2 : (takeF s1 0).2.1 = 0
      · rw [if_neg (by simpa using hx2)] at hR
        obtain ⟨e4, e5⟩ := e3 hx2
        obtain rfl : x2 = 0 := by rw [e2, hx2]
        subst e5
        have hR' : R = if k = 3 then .ok (⟨3, ⟨p, 0, 0, hp16⟩⟩, s2)
            else if (V.uintF s2 0).2.2 ≠ 0 then .error (V.uintF s2 0).2.2
            else if 65535 ≤ (V.uintF s2 0).1 then .error 1
            else if (V.uintF (V.uintF s2 0).2.1 0).2.2 ≠ 0 then .error (V.uintF (V.uintF s2 0).2.1 0).2.2
            else if 4294967296 ≤ (V.uintF (V.uintF s2 0).2.1 0).1 then .error 7
            else .ok (⟨(k : Nat), ⟨p, ((V.uintF s2 0).1 : Nat), ((V.uintF (V.uintF s2 0).2.1 0).1 : Nat), hp16⟩⟩, (V.uintF (V.uintF s2 0).2.1 0).2.1) := by
          rw [hR]
          simp only [← e1, ← e4, mkR_of hp16]
        have HR2 := Lib.hid hR'
        clear hR' hR e1 e2 e3 e4 HR hrd hx2 HTL
        have hk0 : ((0 : Int) != 0) = false := rfl
        go_enter Tryz.func33, Tryz.ntmps33
        go_wp2_with fail
        refine HKi.out.mono ?_
        rintro e w1 ⟨rfl, r1, o1⟩
        have HA1 := Lib.hid (show IAt w1 w.heap.size zeroI from HA0.out.only o1 (by omega))
        have HT1 := Lib.hid (HT0.out.trans o1)
        have HRd1 := Lib.hid r1
        clear r1 o1 HKi HA0 HT0 HK0
        go_wp2_with fail
        refine (HRd.out w1 HRd1.out).mono ?_
        rintro e w2 ⟨rfl, r2, o2⟩
        have HA2 := Lib.hid (show IAt w2 w.heap.size zeroI from HA1.out.only o2 (by omega))
        have HT2 := Lib.hid (HT1.out.trans o2)
        obtain ⟨hB, hSB⟩ := one_at w2 zeroP zeroP_len
        have hst := hB.store p hp16
        have hpz := HPN.out zeroP rfl
        have hpp := HPN.out p hp16
        have HB3 := Lib.hid (hB.put p hp16)
        have HK3 := Lib.hid (hSB.keep.setRow w2.heap.size (pc p) (Nat.le_refl _))
        have HA3 := Lib.hid (HA2.out.keep HK3.out)
        have HT3 := Lib.hid (HT2.out.trans (Only.keep HK3.out))
        have HRd3 := Lib.hid (show Rd _ g s2 0 from r2.below HK3.out)
        have hw2 : w.heap.size < w2.heap.size := block_lt HA2.out
        clear r2 o2 hB hSB HA1 HA2 HT1 HT2 HRd1 HRd
        by_cases hk3 : k = 3
        · have HRE := Lib.hid (show R = .ok (⟨3, ⟨p, 0, 0, hp16⟩⟩, s2) from by rw [HR2.out, if_pos hk3])
          subst hk3
          have HB1 := Lib.hid (build_to p hp16)
          have HB2 := Lib.hid (fun w => build_inc 3 ⟨p, 0, 0, hp16⟩ w)
          have f1 := HB3.out.whole HN2.out
          have f2 := HA3.out.store ⟨3, ⟨p, 0, 0, hp16⟩⟩
          have f3 := (HA3.out.put ⟨3, ⟨p, 0, 0, hp16⟩⟩).whole HN.out
          have HRn := Lib.hid (HRd3.out.row w.heap.size (ic ⟨3, ⟨p, 0, 0, hp16⟩⟩) (by omega))
          have HTn := Lib.hid (HT3.out.rowNew w.heap.size (ic ⟨3, ⟨p, 0, 0, hp16⟩⟩) (Nat.le_refl _))
          generalize hX : (⟨3, ⟨p, 0, 0, hp16⟩⟩ : Ic) = X at *
          generalize hY : (⟨p, 0, 0, hp16⟩ : Rt) = Y at *
          clear hk HR2
          generalize pc p = T at *
          go_wp2_with (first | ((with_reducible refine at_build (t := 57) [(0, .agg T)] ?_ (.agg (rc Y)) ?_ ?_); rfl; exact HB1.out _) | ((with_reducible refine at_build (t := 59) [(0, .int .i64 3), (1, .agg (rc Y))] ?_ (.agg (ic X)) ?_ ?_); rfl; exact HB2.out _))
          rw [HRE.out]
          refine bodyPost_ret (v := .tuple #[.agg (ic X), .int .i64 0]) ?_ rfl (show ChPost g w (.ok (X, s2)) _ _ from ⟨rfl, HRn.out, HTn.out⟩)
          simp [results, Tryz.results33, go_sem, hsz, f3]
        · have hk3b : ((k : Int) == 3) = false := by simp; omega
          have hR := HR2.out
          rw [if_neg hk3] at hR
          have HNum := Lib.hid (inum g 65535 1 s2 _ HRd3.out (by omega))
          unfold NumPost7 numF at HNum
          have hulen := V.uintF_lt s2 0
          generalize V.uintF s2 0 = u at hR HNum hulen
          obtain ⟨m, s3, x3⟩ := u
          simp only at hR HNum hulen
          have HR3 := Lib.hid hR
          clear hR HR2
          go_wp2_with fail
          refine HNum.out.mono ?_
          rintro e w4 ⟨rfl, r4, o4⟩
          have HA4 := Lib.hid (show IAt w4 w.heap.size zeroI from HA3.out.only o4 (by omega))
          have HB4 := Lib.hid (show At w4 w2.heap.size p from ⟨o4.obj HB3.out.block (by omega), hp16⟩)
          have HT4 := Lib.hid (HT3.out.trans o4)
          have HRr4 := Lib.hid r4
          clear r4 o4 hst HA3 HB3 HT3 HNum HRd3
          by_cases hx3 : x3 = 0
          · subst hx3
            rw [if_neg (by simp)] at HR3 ⊢
            by_cases hm : 65535 ≤ m
            · rw [if_pos hm] at HR3 ⊢
              have hstE := HA4.out.store zeroI
              have hldE := (HA4.out.put zeroI).whole HN.out
              go_wp2_with ((with_reducible refine at_build [] ?_ (.agg (ic zeroI)) ?_ ?_); rfl; exact HBZ.out _)
              rw [HR3.out]
              refine bodyPost_ret (v := .tuple #[.agg (ic zeroI), .int .i64 1]) ?_ rfl (show ChPost g w (.error 1) _ _ from ⟨rfl, by decide, HT4.out.rowNew _ _ (Nat.le_refl _)⟩)
              simp [results, Tryz.results33, go_sem, hsz, hldE]
            · rw [if_neg hm] at HR3 ⊢
              have hR := HR3.out
              have HNum := Lib.hid (inum g 4294967296 7 s3 w4 HRr4.out (by omega))
              unfold NumPost7 numF at HNum
              have hulen2 := V.uintF_lt s3 0
              generalize V.uintF s3 0 = u at hR HNum hulen2
              obtain ⟨q, s4, x4⟩ := u
              simp only at hR HNum hulen2
              have HR5 := Lib.hid hR
              clear hR HR3
              go_wp2_with fail
              refine HNum.out.mono ?_
              rintro e w5 ⟨rfl, r5, o5⟩
              have HA5 := Lib.hid (show IAt w5 w.heap.size zeroI from HA4.out.only o5 (by omega))
              have HB5 := Lib.hid (show At w5 w2.heap.size p from ⟨o5.obj HB4.out.block (by omega), hp16⟩)
              have HT5 := Lib.hid (HT4.out.trans o5)
              have HRr5 := Lib.hid r5
              clear r5 o5 HA4 HB4 HT4 HNum HRr4
              by_cases hx4 : x4 = 0
              · subst hx4
                rw [if_neg (by simp)] at HR5 ⊢
                by_cases hq : 4294967296 ≤ q
                · rw [if_pos hq] at HR5 ⊢
                  have hstE := HA5.out.store zeroI
                  have hldE := (HA5.out.put zeroI).whole HN.out
                  go_wp2_with ((with_reducible refine at_build [] ?_ (.agg (ic zeroI)) ?_ ?_); rfl; exact HBZ.out _)
                  rw [HR5.out]
                  refine bodyPost_ret (v := .tuple #[.agg (ic zeroI), .int .i64 7]) ?_ rfl (show ChPost g w (.error 7) _ _ from ⟨rfl, by decide, HT5.out.rowNew _ _ (Nat.le_refl _)⟩)
                  simp [results, Tryz.results33, go_sem, hsz, hldE]
                · rw [if_neg hq] at HR5 ⊢
                  have HB1 := Lib.hid (fun w => build_all p hp16 m q w)
                  have HB2 := Lib.hid (fun w => build_inc (k : Nat) ⟨p, m, q, hp16⟩ w)
                  have f1 := HB5.out.whole HN2.out
                  have f2 := HA5.out.store ⟨(k : Nat), ⟨p, m, q, hp16⟩⟩
                  have f3 := (HA5.out.put ⟨(k : Nat), ⟨p, m, q, hp16⟩⟩).whole HN.out
                  have HRn := Lib.hid (HRr5.out.row w.heap.size (ic ⟨(k : Nat), ⟨p, m, q, hp16⟩⟩) (by omega))
                  have HTn := Lib.hid (HT5.out.rowNew w.heap.size (ic ⟨(k : Nat), ⟨p, m, q, hp16⟩⟩) (Nat.le_refl _))
                  generalize hX : (⟨(k : Nat), ⟨p, m, q, hp16⟩⟩ : Ic) = X at *
                  generalize hY : (⟨p, m, q, hp16⟩ : Rt) = Y at *
                  have hmi : (m : Int) < 65535 := by omega
                  have hqi : (q : Int) < 4294967296 := by omega
                  clear hk
                  generalize pc p = T at *
                  go_wp2_with (first | ((with_reducible refine at_build (t := 57) [(0, .agg T), (1, .int .i64 (m : Nat)), (2, .int .u32 (q : Nat))] ?_ (.agg (rc Y)) ?_ ?_); rfl; exact HB1.out _) | ((with_reducible refine at_build (t := 59) [(0, .int .i64 (k : Nat)), (1, .agg (rc Y))] ?_ (.agg (ic X)) ?_ ?_); rfl; exact HB2.out _))
                  rw [HR5.out]
                  refine bodyPost_ret (v := .tuple #[.agg (ic X), .int .i64 0]) ?_ rfl (show ChPost g w (.ok (X, s4)) _ _ from ⟨rfl, HRn.out, HTn.out⟩)
                  simp [results, Tryz.results33, go_sem, hsz, f3]
              · have hx4b : (x4 != 0) = true := by simpa using hx4
                rw [if_pos hx4] at HR5 ⊢
                have hstE := HA5.out.store zeroI
                have hldE := (HA5.out.put zeroI).whole HN.out
                go_wp2_with ((with_reducible refine at_build [] ?_ (.agg (ic zeroI)) ?_ ?_); rfl; exact HBZ.out _)
                rw [HR5.out]
                refine bodyPost_ret (v := .tuple #[.agg (ic zeroI), .int .i64 x4]) ?_ rfl (show ChPost g w (.error x4) _ _ from ⟨rfl, hx4, HT5.out.rowNew _ _ (Nat.le_refl _)⟩)
                simp [results, Tryz.results33, go_sem, hsz, hldE]
          · have hx3b : (x3 != 0) = true := by simpa using hx3
            rw [if_pos hx3] at HR3 ⊢
            have hstE := HA4.out.store zeroI
            have hldE := (HA4.out.put zeroI).whole HN.out
            go_wp2_with ((with_reducible refine at_build [] ?_ (.agg (ic zeroI)) ?_ ?_); rfl; exact HBZ.out _)
            rw [HR3.out]
            refine bodyPost_ret (v := .tuple #[.agg (ic zeroI), .int .i64 x3]) ?_ rfl (show ChPost g w (.error x3) _ _ from ⟨rfl, hx3, HT4.out.rowNew _ _ (Nat.le_refl _)⟩)
            simp [results, Tryz.results33, go_sem, hsz, hldE]
      · rw [if_pos hx2, ← e2] at hR
        have hx2n : x2 ≠ 0 := by rw [e2]; exact hx2
        have hx2b : (x2 != 0) = true := by simpa using hx2n
        have HR2 := Lib.hid hR
        clear hR e1 e2 e3 HR hrd hx2 HTL
        go_enter Tryz.func33, Tryz.ntmps33
        go_wp2_with fail
        refine HKi.out.mono ?_
        rintro e w1 ⟨rfl, r1, o1⟩
        have HA1 := Lib.hid (show IAt w1 w.heap.size zeroI from HA0.out.only o1 (by omega))
        have HT1 := Lib.hid (HT0.out.trans o1)
        have HRd1 := Lib.hid r1
        clear r1 o1 HKi HA0 HT0 HK0
        go_wp2_with fail
        refine (HRd.out w1 HRd1.out).mono ?_
        rintro e w2 ⟨rfl, r2, o2⟩
        have HA2 := Lib.hid (show IAt w2 w.heap.size zeroI from HA1.out.only o2 (by omega))
        have HT2 := Lib.hid (HT1.out.trans o2)
        obtain ⟨hB, hSB⟩ := one_at w2 zeroP zeroP_len
        have hst := hB.store p hp16
        have hpz := HPN.out zeroP rfl
        have hpp := HPN.out p hp16
        have HK3 := Lib.hid (hSB.keep.setRow w2.heap.size (pc p) (Nat.le_refl _))
        have HA3 := Lib.hid (HA2.out.keep HK3.out)
        have HT3 := Lib.hid (HT2.out.trans (Only.keep HK3.out))
        clear r2 o2 hB hSB HA1 HA2 HT1 HT2 HRd1 HRd
        have hstE := HA3.out.store zeroI
        have hldE := (HA3.out.put zeroI).whole HN.out
        go_wp2_with ((with_reducible refine at_build [] ?_ (.agg (ic zeroI)) ?_ ?_); rfl; exact HBZ.out _)
        rw [HR2.out]
        refine bodyPost_ret (v := .tuple #[.agg (ic zeroI), .int .i64 x2]) ?_ rfl (show ChPost g w (.error x2) _ _ from ⟨rfl, hx2n, HT3.out.rowNew _ _ (Nat.le_refl _)⟩)
        simp [results, Tryz.results33, go_sem, hsz, hldE]
    · rw [if_neg hk] at HKi
      rw [if_pos hk] at HR
      go_enter Tryz.func33, Tryz.ntmps33
      go_wp2_with fail
      refine HKi.out.mono ?_
      rintro e w1 ⟨rfl, r1, o1⟩
      have HA1 := Lib.hid (show IAt w1 w.heap.size zeroI from HA0.out.only o1 (by omega))
      have HT1 := Lib.hid (HT0.out.trans o1)
      clear r1 o1 HKi HA0 HT0 HK0 hk
      have hstE := HA1.out.store zeroI
      have hldE := (HA1.out.put zeroI).whole HN.out
      go_wp2_with ((with_reducible refine at_build [] ?_ (.agg (ic zeroI)) ?_ ?_); rfl; exact HBZ.out _)
      rw [HR.out]
      refine bodyPost_ret (v := .tuple #[.agg (ic zeroI), .int .i64 4]) ?_ rfl (show ChPost g w (.error 4) _ _ from ⟨rfl, by decide, HT1.out.rowNew _ _ (Nat.le_refl _)⟩)
      simp [results, Tryz.results33, go_sem, hsz, hldE]
  · have hx1b : (x1 != 0) = true := by simpa using hx1
    rw [if_pos hx1] at HKi HR
    go_enter Tryz.func33, Tryz.ntmps33
    go_wp2_with fail
    refine HKi.out.mono ?_
    rintro e w1 ⟨rfl, r1, o1⟩
    have HA1 := Lib.hid (show IAt w1 w.heap.size zeroI from HA0.out.only o1 (by omega))
    have HT1 := Lib.hid (HT0.out.trans o1)
    clear r1 o1 HKi HA0 HT0 HK0
    have hstE := HA1.out.store zeroI
    have hldE := (HA1.out.put zeroI).whole HN.out
    go_wp2_with ((with_reducible refine at_build [] ?_ (.agg (ic zeroI)) ?_ ?_); rfl; exact HBZ.out _)
    rw [HR.out]
    refine bodyPost_ret (v := .tuple #[.agg (ic zeroI), .int .i64 x1]) ?_ rfl (show ChPost g w (.error x1) _ _ from ⟨rfl, hx1, HT1.out.rowNew _ _ (Nat.le_refl _)⟩)
    simp [results, Tryz.results33, go_sem, hsz, hldE]
end Go.Proofs.YtgkgpdlakamgiaaGreat
