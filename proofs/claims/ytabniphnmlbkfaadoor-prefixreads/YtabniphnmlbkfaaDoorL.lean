/- Proved: what the document's Common, and Contains of both, answer. Condition: addresses have sixteen bytes; numbers fit. -/
import Derived.Test.YtabniphnmlbkfaaDoorK
namespace Go.Proofs.YtabniphnmlbkfaaDoor
open Go.RowKit

def QCRel (W : World) (l m : List UInt8) (t : Nat) (i : Value) (wr : World) : Prop :=
  ∃ k : Nat, i = .int .i64 k ∧ k ≤ t ∧ comm l m (t - k) k = comm l m t 0 ∧ Same W wr

theorem comm_more (l m : List UInt8) (t k : Nat) (hk : k < t) (h : bitOf l k = bitOf m k) : comm l m (t - k) k = comm l m (t - (k + 1)) (k + 1) := by
  rw [show t - k = (t - (k + 1)) + 1 by omega, comm, if_pos h]
theorem comm_end (l m : List UInt8) (t k : Nat) (hk : k < t) (h : bitOf l k ≠ bitOf m k) : comm l m (t - k) k = k := by
  rw [show t - k = (t - (k + 1)) + 1 by omega, comm, if_neg h]

set_option maxRecDepth 100000 in
theorem qcommon (a b : Px) (ha : a.addr.length = 16) (hb : b.addr.length = 16) : Gives Tryd.prog 19 #[.agg (pc a), .agg (pc b)] (.int .i64 (commonZ a b)) := by
  intro w
  obtain ⟨hA, hB, hS⟩ := two_at w a b ha hb
  have HRa := Lib.hid (qright a ha)
  have HRb := Lib.hid (qright b hb)
  obtain ⟨Z, hZ⟩ : ∃ Z, commonZ a b = Z := ⟨_, rfl⟩
  rw [hZ]
  have HZ := Lib.hid hZ
  clear hZ
  obtain ⟨n, hn⟩ : ∃ n, n = 16 := ⟨16, rfl⟩
  have hsz : ∀ w, (Go.sizeOf 22).run Tryd.prog w = .ok n w := fun w => by rw [hn]; exact Tryd.sizeOf22 w
  have hn0 : ¬ n = 0 := by omega
  obtain ⟨n2, hn2⟩ : ∃ n, n = 18 := ⟨18, rfl⟩
  have hsz2 : ∀ w, (Go.sizeOf 24).run Tryd.prog w = .ok n2 w := fun w => by rw [hn2]; exact Tryd.sizeOf24 w
  have hw := hA.whole hn2
  have HA := Lib.hid hA
  have HB := Lib.hid hB
  have HS := Lib.hid hS
  have HN := Lib.hid hn
  have HN2 := Lib.hid hn2
  clear hA hB hS hn hn2
  by_cases hr : rightP a
  · rw [decide_eq_true hr] at HRa
    by_cases hq : rightP b
    · rw [decide_eq_true hq] at HRb
      by_cases hs : a.six = b.six
      · obtain ⟨x, hx⟩ : ∃ x : Nat, a.len = x := ⟨a.len.toNat, by have := hr.1; omega⟩
        obtain ⟨y, hy⟩ : ∃ y : Nat, b.len = y := ⟨b.len.toNat, by have := hq.1; omega⟩
        have hx2 : x ≤ 128 := by have := hr.2.1; have := sizeN_le a.six; omega
        have hy2 : y ≤ 128 := by have := hq.2.1; have := sizeN_le b.six; omega
        have HZ2 := Lib.hid (show Z = ((comm a.addr b.addr (min x y) 0 : Nat) : Int) by
          rw [← HZ.out, commonZ, if_pos ⟨hs, hr, hq⟩, hx, hy, show (min (x : Int) y).toNat = min x y by omega])
        have HX := Lib.hid hx
        have HY := Lib.hid hy
        clear HZ hx hy hr hq
        go_enter Tryd.func19, Tryd.ntmps19
        go_wp2_with fail
        refine (HRa.out _).mono ?_
        rintro e w1 ⟨rfl, b1⟩
        have hw2 := (HB.out.mono b1).whole HN2.out
        clear hw
        go_wp2_with fail
        refine (HRb.out _).mono ?_
        rintro e w2 ⟨rfl, b2⟩
        have b12 := b1.trans b2
        have HA2 := Lib.hid (HA.out.mono b12)
        have HB2 := Lib.hid (HB.out.mono b12)
        have HS2 := Lib.hid (HS.out.trans b12)
        have ha0 := HA2.out.six
        have hb0 := HB2.out.six
        clear hw2 b1 b2 b12 HA HB HS
        rw [← hs] at hb0
        go_wp2_with fail
        go_loopw [5] (fun i wr => QCRel w2 a.addr b.addr (min x y) i wr) (fun i _ => 128 - (intOf i).toNat)
        case atStart => exact ⟨0, rfl, by omega, rfl, Same.refl _⟩
        case round =>
          obtain ⟨k, rfl, hk, hcm, hsame⟩ := hrel
          have HC := Lib.hid hcm
          have HAr := Lib.hid (HA2.out.mono hsame)
          have HBr := Lib.hid (HB2.out.mono hsame)
          have HSr := Lib.hid (HS2.out.trans hsame)
          have HSk := Lib.hid hsame
          clear hcm hsame HA2 HB2 ha0 hb0
          have e1 : ∀ u : SW wr, u.1.cell? ⟨w.heap.size, 17, none⟩ = some (.int .i64 (x : Nat)) := fun u => by rw [← HX.out]; exact (HAr.out.mono u.2).bits
          have e2 : ∀ u : SW wr, u.1.cell? ⟨w.heap.size + 1, 17, none⟩ = some (.int .i64 (y : Nat)) := fun u => by rw [← HY.out]; exact (HBr.out.mono u.2).bits
          have e3 : ∀ u : SW wr, (loadCellsFrom ⟨w.heap.size, 1, none⟩ 0 n #[]).run Tryd.prog u.1 = .ok (ac a.addr) u.1 := fun u => (HAr.out.mono u.2).addr HN.out
          have e4 : ∀ u : SW wr, (loadCellsFrom ⟨w.heap.size + 1, 1, none⟩ 0 n #[]).run Tryd.prog u.1 = .ok (ac b.addr) u.1 := fun u => (HBr.out.mono u.2).addr HN.out
          by_cases hkx : k < x
          · by_cases hky : k < y
            · have hba := Lib.hid (bit_of a.addr ha k (by omega))
              have hbb := Lib.hid (bit_of b.addr hb k (by omega))
              have Hone := Lib.hid (comm_more a.addr b.addr (min x y) k (by omega))
              have Hstop := Lib.hid (comm_end a.addr b.addr (min x y) k (by omega))
              generalize bitOf a.addr k = c at *
              generalize bitOf b.addr k = d at *
              go_wp2_with fail
              refine wp_region_same (Same.refl _) (by kernel_rfl) (by kernel_rfl) ?_
              repeat (first | go_big_quiet_step (fail) | quiet_step (fail))
              first | go_big_quiet_step (exact hba.out.at _) | quiet_step (exact hba.out.at _)
              repeat (first | go_big_quiet_step (fail) | quiet_step (fail))
              first | go_big_quiet_step (exact hbb.out.at _) | quiet_step (exact hbb.out.at _)
              repeat (first | go_big_quiet_step (fail) | quiet_step (fail))
              refine wpQuiet_nil ?_
              rintro w6 ⟨⟨w7, b7⟩, rfl⟩
              clear e1 e2 e3 e4 hba hbb
              by_cases h8 : c = d
              · go_wp2
                go_roundw
                case rel =>
                  refine ⟨k + 1, by go_num, by omega, ?_, HSk.out.trans b7⟩
                  rw [← Hone.out h8]
                  exact HC.out
                case measure => simp [intOf]; omega
              · go_wp2
                go_ret
                refine ⟨?_, HSr.out.trans b7⟩
                have hf := HC.out
                rw [Hstop.out h8] at hf
                rw [HZ2.out, ← hf]
                rfl
            · go_wp2_with fail
              refine wp_region_same (Same.refl _) (by kernel_rfl) (by kernel_rfl) ?_
              repeat (first | go_big_quiet_step (fail) | quiet_step (fail))
              refine wpQuiet_nil ?_
              rintro w6 ⟨⟨w7, b7⟩, rfl⟩
              go_wp2
              go_ret
              refine ⟨?_, HSr.out.trans b7⟩
              have hf := HC.out
              rw [show min x y - k = 0 by omega, comm] at hf
              rw [HZ2.out, ← hf]
              rfl
          · go_wp2_with fail
            refine wp_region_same (Same.refl _) (by kernel_rfl) (by kernel_rfl) ?_
            repeat (first | go_big_quiet_step (fail) | quiet_step (fail))
            refine wpQuiet_nil ?_
            rintro w6 ⟨⟨w7, b7⟩, rfl⟩
            go_wp2
            go_ret
            refine ⟨?_, HSr.out.trans b7⟩
            have hf := HC.out
            rw [show min x y - k = 0 by omega, comm] at hf
            rw [HZ2.out, ← hf]
            rfl
      · go_enter Tryd.func19, Tryd.ntmps19
        go_wp2_with fail
        refine (HRa.out _).mono ?_
        rintro e w1 ⟨rfl, b1⟩
        have hw2 := (HB.out.mono b1).whole HN2.out
        clear hw
        go_wp2_with fail
        refine (HRb.out _).mono ?_
        rintro e w2 ⟨rfl, b2⟩
        have b12 := b1.trans b2
        have ha0 := (HA.out.mono b12).six
        have hb0 := (HB.out.mono b12).six
        clear hw2
        have hs2 : (a.six != b.six) = true := by simpa using hs
        cases hsa : a.six <;> cases hsb : b.six <;> rw [hsa, hsb] at hs2 <;> simp at hs2 <;> rw [hsa] at ha0 <;> rw [hsb] at hb0 <;> clear hs2
        all_goals
          go_wp2
          go_ret
          refine ⟨?_, HS.out.trans b12⟩
          rw [← HZ.out]
          unfold commonZ
          rw [if_neg (by intro h; exact hs h.1)]
          rfl
    · rw [decide_eq_false hq] at HRb
      go_enter Tryd.func19, Tryd.ntmps19
      go_wp2_with fail
      refine (HRa.out _).mono ?_
      rintro e w1 ⟨rfl, b1⟩
      have hw2 := (HB.out.mono b1).whole HN2.out
      clear hw
      go_wp2_with fail
      refine (HRb.out _).mono ?_
      rintro e w2 ⟨rfl, b2⟩
      go_wp2
      go_ret
      refine ⟨?_, (HS.out.trans b1).trans b2⟩
      rw [← HZ.out]
      unfold commonZ
      rw [if_neg (by intro h; exact hq h.2.2)]
      rfl
  · rw [decide_eq_false hr] at HRa
    go_enter Tryd.func19, Tryd.ntmps19
    go_wp2_with fail
    refine (HRa.out _).mono ?_
    rintro e w1 ⟨rfl, b1⟩
    go_wp2
    go_ret
    refine ⟨?_, HS.out.trans b1⟩
    rw [← HZ.out]
    unfold commonZ
    rw [if_neg (by intro h; exact hr h.2.1)]
    rfl

def hasB (p q : Px) : Bool := decide (rightP p ∧ rightP q ∧ commonZ p q = p.len)
theorem hasB_eq (p q : Px) : hasB p q = (decide (0 ≤ commonZ p q) && decide (commonZ p q = p.len)) := by
  rw [Bool.eq_iff_iff]
  simp only [hasB, Bool.and_eq_true, decide_eq_true_eq]
  constructor
  · rintro ⟨h1, h2, h3⟩
    exact ⟨by rw [h3]; exact h1.1, h3⟩
  · rintro ⟨h1, h2⟩
    unfold commonZ at h1
    split at h1
    · rename_i h
      exact ⟨h.2.1, h.2.2, h2⟩
    · omega
theorem commonZ_fits (p q : Px) : -1 ≤ commonZ p q ∧ commonZ p q ≤ 128 := by
  unfold commonZ
  split
  · rename_i h
    have h1 := comm_le p.addr q.addr (min p.len q.len).toNat 0
    have h2 := h.2.1.2.1
    have h3 := sizeN_le p.six
    omega
  · omega

set_option maxRecDepth 100000 in
theorem contains (a b : Px) (ha : a.addr.length = 16) (hb : b.addr.length = 16) : Gives Tryd.prog 16 #[.agg (pc a), .agg (pc b)] (.bool (hasB a b)) := by
  intro w
  obtain ⟨hA, hB, hS⟩ := two_at w a b ha hb
  have HCo := Lib.hid (common a b ha hb)
  rw [hasB_eq]
  obtain ⟨n2, hn2⟩ : ∃ n, n = 18 := ⟨18, rfl⟩
  have hsz2 : ∀ w, (Go.sizeOf 24).run Tryd.prog w = .ok n2 w := fun w => by rw [hn2]; exact Tryd.sizeOf24 w
  have hw := hA.whole hn2
  have hw2 := hB.whole hn2
  have HA := Lib.hid hA
  have HS := Lib.hid hS
  have HN2 := Lib.hid hn2
  clear hA hB hS hn2
  generalize commonZ a b = Z at *
  go_enter Tryd.func16, Tryd.ntmps16
  go_wp2_with fail
  refine (HCo.out _).mono ?_
  rintro e w1 ⟨rfl, b1⟩
  have h17 := (HA.out.mono b1).bits
  clear hw hw2
  by_cases h0 : 0 ≤ Z
  · go_wp2
    go_ret
    refine ⟨?_, HS.out.trans b1⟩
    rw [decide_eq_true h0, Bool.true_and, show decide (Z = a.len) = (Z == a.len) by rw [Bool.eq_iff_iff]; simp]
    rfl
  · go_wp2
    go_ret
    refine ⟨?_, HS.out.trans b1⟩
    rw [decide_eq_false (by omega), Bool.false_and]
    rfl

set_option maxRecDepth 100000 in
theorem qcontains (a b : Px) (ha : a.addr.length = 16) (hb : b.addr.length = 16) : Gives Tryd.prog 17 #[.agg (pc a), .agg (pc b)] (.bool (hasB a b)) := by
  intro w
  obtain ⟨hA, hB, hS⟩ := two_at w a b ha hb
  have HRa := Lib.hid (qright a ha)
  have HRb := Lib.hid (qright b hb)
  have HCo := Lib.hid (qcommon a b ha hb)
  obtain ⟨Z, hZ⟩ : ∃ Z, hasB a b = Z := ⟨_, rfl⟩
  rw [hZ]
  have HZ := Lib.hid hZ
  clear hZ
  obtain ⟨n2, hn2⟩ : ∃ n, n = 18 := ⟨18, rfl⟩
  have hsz2 : ∀ w, (Go.sizeOf 24).run Tryd.prog w = .ok n2 w := fun w => by rw [hn2]; exact Tryd.sizeOf24 w
  have HA := Lib.hid hA
  have HB := Lib.hid hB
  have HS := Lib.hid hS
  have HN2 := Lib.hid hn2
  have hw : ∀ u : SW ((w.alloc (.cells (pc a) 24)).alloc (.cells (pc b) 24)), (loadCellsFrom ⟨w.heap.size, 0, none⟩ 0 n2 #[]).run Tryd.prog u.1 = .ok (pc a) u.1 := fun u => (HA.out.mono u.2).whole HN2.out
  have hw2 : ∀ u : SW ((w.alloc (.cells (pc a) 24)).alloc (.cells (pc b) 24)), (loadCellsFrom ⟨w.heap.size + 1, 0, none⟩ 0 n2 #[]).run Tryd.prog u.1 = .ok (pc b) u.1 := fun u => (HB.out.mono u.2).whole HN2.out
  have h17 : ∀ u : SW ((w.alloc (.cells (pc a) 24)).alloc (.cells (pc b) 24)), u.1.cell? ⟨w.heap.size, 17, none⟩ = some (.int .i64 a.len) := fun u => (HA.out.mono u.2).bits
  clear hA hB hS hn2
  by_cases hr : rightP a
  · rw [decide_eq_true hr] at HRa
    by_cases hq : rightP b
    · rw [decide_eq_true hq] at HRb
      have HE := Lib.hid (show Z = (commonZ a b == a.len) by rw [← HZ.out, Bool.eq_iff_iff]; simp [hasB, hr, hq])
      generalize commonZ a b = C at *
      go_enter Tryd.func17, Tryd.ntmps17
      go_wp2_with fail
      refine wp_region_same (Same.refl _) (by kernel_rfl) (by kernel_rfl) ?_
      repeat (first | go_big_quiet_step (fail) | quiet_step (fail))
      first | go_big_quiet_step (exact HRa.out.at _) | quiet_step (exact HRa.out.at _)
      repeat (first | go_big_quiet_step (fail) | quiet_step (fail))
      first | go_big_quiet_step (exact HRb.out.at _) | quiet_step (exact HRb.out.at _)
      repeat (first | go_big_quiet_step (fail) | quiet_step (fail))
      first | go_big_quiet_step (exact HCo.out.at _) | quiet_step (exact HCo.out.at _)
      repeat (first | go_big_quiet_step (fail) | quiet_step (fail))
      refine wpQuiet_nil ?_
      rintro w6 ⟨⟨w7, b7⟩, rfl⟩
      go_wp2
      go_ret
      exact ⟨by rw [HE.out]; rfl, HS.out.trans b7⟩
    · rw [decide_eq_false hq] at HRb
      go_enter Tryd.func17, Tryd.ntmps17
      go_wp2_with fail
      refine wp_region_same (Same.refl _) (by kernel_rfl) (by kernel_rfl) ?_
      repeat (first | go_big_quiet_step (fail) | quiet_step (fail))
      first | go_big_quiet_step (exact HRa.out.at _) | quiet_step (exact HRa.out.at _)
      repeat (first | go_big_quiet_step (fail) | quiet_step (fail))
      first | go_big_quiet_step (exact HRb.out.at _) | quiet_step (exact HRb.out.at _)
      repeat (first | go_big_quiet_step (fail) | quiet_step (fail))
      refine wpQuiet_nil ?_
      rintro w6 ⟨⟨w7, b7⟩, rfl⟩
      go_wp2
      go_ret
      refine ⟨?_, HS.out.trans b7⟩
      rw [← HZ.out, show hasB a b = false by simp [hasB, hq]]
      rfl
  · rw [decide_eq_false hr] at HRa
    go_enter Tryd.func17, Tryd.ntmps17
    go_wp2_with fail
    refine wp_region_same (Same.refl _) (by kernel_rfl) (by kernel_rfl) ?_
    repeat (first | go_big_quiet_step (fail) | quiet_step (fail))
    first | go_big_quiet_step (exact HRa.out.at _) | quiet_step (exact HRa.out.at _)
    repeat (first | go_big_quiet_step (fail) | quiet_step (fail))
    refine wpQuiet_nil ?_
    rintro w6 ⟨⟨w7, b7⟩, rfl⟩
    go_wp2
    go_ret
    refine ⟨?_, HS.out.trans b7⟩
    rw [← HZ.out, show hasB a b = false by simp [hasB, hr]]
    rfl
end Go.Proofs.YtabniphnmlbkfaaDoor
