/- Proved: a prefix in memory; what prefix's Bit, Common and Contains answer. Condition: addresses have sixteen bytes; numbers fit. -/
import Derived.Test.YtabniphnmlbkfaaDoorT
import Derived.Test.YtabniphnmlbkfaaDoorP3
import Derived.Test.YtabniphnmlbkfaaDoorShelf
namespace Go.Proofs.YtabniphnmlbkfaaDoor
open Go.RowKit

/-- A prefix lies in block b. -/
structure At (w : World) (b : Nat) (p : Px) : Prop where
  block : w.heap[b]? = some (.cells (pc p) 24 (0, 0))
  len : p.addr.length = 16
theorem At.mono {w w' : World} {b : Nat} {p : Px} (h : At w b p) (k : Same w w') : At w' b p := ⟨k.obj h.block, h.len⟩
theorem At.six {w : World} {b : Nat} {p : Px} (h : At w b p) : w.cell? ⟨b, 0, none⟩ = some (.bool p.six) := cell_obj h.block (pc_six p)
theorem At.bits {w : World} {b : Nat} {p : Px} (h : At w b p) : w.cell? ⟨b, 17, none⟩ = some (.int .i64 p.len) := cell_obj h.block (pc_len p h.len)
theorem At.byte {w : World} {b : Nat} {p : Px} (h : At w b p) (i : Nat) (hi : i < 16) : w.cell? ⟨b, 1 + i, none⟩ = some (.int .u8 ((p.addr.getD i 0).toNat : Nat)) := by
  have hl := h.len
  rw [cell_obj h.block (pc_get p i (by omega))]
  simp [show i < p.addr.length by omega]
theorem At.whole {w : World} {b n : Nat} {p : Px} (h : At w b p) (hn : n = 18) : (loadCellsFrom ⟨b, 0, none⟩ 0 n #[]).run Tryd.prog w = .ok (pc p) w := load_block n (by rw [pc_size p h.len, hn]) h.block
theorem At.addr {w : World} {b n : Nat} {p : Px} (h : At w b p) (hn : n = 16) : (loadCellsFrom ⟨b, 1, none⟩ 0 n #[]).run Tryd.prog w = .ok (ac p.addr) w := load_addr p (by rw [h.len, hn]) h.block
theorem one_at (w : World) (p : Px) (hp : p.addr.length = 16) : At (w.alloc (.cells (pc p) 24)) w.heap.size p ∧ Same w (w.alloc (.cells (pc p) 24)) :=
  ⟨⟨heap_alloc_last w _, hp⟩, (Same.refl w).alloc _⟩
theorem two_at (w : World) (p q : Px) (hp : p.addr.length = 16) (hq : q.addr.length = 16) : At ((w.alloc (.cells (pc p) 24)).alloc (.cells (pc q) 24)) w.heap.size p ∧ At ((w.alloc (.cells (pc p) 24)).alloc (.cells (pc q) 24)) (w.heap.size + 1) q ∧ Same w ((w.alloc (.cells (pc p) 24)).alloc (.cells (pc q) 24)) := by
  have hs : (w.alloc (.cells (pc p) 24)).heap.size = w.heap.size + 1 := by simp
  refine ⟨⟨alloc_old (heap_alloc_last w _) _, hp⟩, ⟨?_, hq⟩, ((Same.refl w).alloc _).alloc _⟩
  rw [← hs]
  exact heap_alloc_last _ _

theorem right (p : Px) (hp : p.addr.length = 16) : Gives Tryd.prog 13 #[.agg (pc p)] (.bool (decide (rightP p))) := right_at p hp
theorem qright (p : Px) (hp : p.addr.length = 16) : Gives Tryd.prog 9 #[.agg (pc p)] (.bool (decide (rightP p))) := qright_at p hp

def bitZ (p : Px) (i : Int) : Int := if 0 ≤ i ∧ i < p.len ∧ rightP p then (bitOf p.addr i.toNat : Nat) else -1
theorem and1 (c r : Nat) (hc : c < 256) : wrap64 (bits .and .u8 ((c : Int) / 2 ^ r) 1) = ((c / 2 ^ r % 2 : Nat) : Int) := by
  have h2 : c / 2 ^ r ≤ c := Nat.div_le_self _ _
  have h := u8_and_nat (c / 2 ^ r) 1 (by omega) (by omega)
  rw [show ((c : Int) / 2 ^ r) = ((c / 2 ^ r : Nat) : Int) by simp, show (1 : Int) = ((1 : Nat) : Int) by rfl, h, Nat.and_one_is_mod]
  unfold wrap64
  omega

set_option maxRecDepth 100000 in
theorem bit (p : Px) (hp : p.addr.length = 16) (i : Int) (hi : -9223372036854775808 ≤ i ∧ i ≤ 9223372036854775807) : Gives Tryd.prog 22 #[.agg (pc p), .int .i64 i] (.int .i64 (bitZ p i)) := by
  intro w
  obtain ⟨hA, hS⟩ := one_at w p hp
  have HR := Lib.hid (right p hp)
  obtain ⟨Z, hZ⟩ : ∃ Z, bitZ p i = Z := ⟨_, rfl⟩
  rw [hZ]
  have HZ := Lib.hid hZ
  clear hZ
  obtain ⟨n, hn⟩ : ∃ n, n = 16 := ⟨16, rfl⟩
  have hsz : ∀ w, (Go.sizeOf 22).run Tryd.prog w = .ok n w := fun w => by rw [hn]; exact Tryd.sizeOf22 w
  have hn0 : ¬ n = 0 := by omega
  obtain ⟨n2, hn2⟩ : ∃ n, n = 18 := ⟨18, rfl⟩
  have hsz2 : ∀ w, (Go.sizeOf 24).run Tryd.prog w = .ok n2 w := fun w => by rw [hn2]; exact Tryd.sizeOf24 w
  have hw := hA.whole hn2
  have h17 := hA.bits
  have HA := Lib.hid hA
  have HS := Lib.hid hS
  have HN := Lib.hid hn
  have HN2 := Lib.hid hn2
  clear hA hS hn hn2
  by_cases h0 : i < 0
  · go_enter Tryd.func22, Tryd.ntmps22
    go_wp2
    go_ret
    refine ⟨?_, HS.out⟩
    rw [← HZ.out]
    unfold bitZ
    rw [if_neg (by omega)]
    rfl
  · by_cases h1 : p.len ≤ i
    · go_enter Tryd.func22, Tryd.ntmps22
      go_wp2
      go_ret
      refine ⟨?_, HS.out⟩
      rw [← HZ.out]
      unfold bitZ
      rw [if_neg (by omega)]
      rfl
    · by_cases hr : rightP p
      · rw [decide_eq_true hr] at HR
        obtain ⟨k, rfl⟩ : ∃ k : Nat, i = k := ⟨i.toNat, by omega⟩
        have hk : k < 128 := by have := hr.2.1; have := sizeN_le p.six; omega
        have Hr := Lib.hid hr
        clear hr
        go_enter Tryd.func22, Tryd.ntmps22
        go_wp2_with fail
        refine (HR.out _).mono ?_
        rintro e w1 ⟨rfl, b1⟩
        have hb := (HA.out.mono b1).byte (k / 8) (by omega)
        have hlt : (p.addr.getD (k / 8) 0).toNat < 256 := UInt8.toNat_lt _
        have hx := and1 (p.addr.getD (k / 8) 0).toNat (7 - k % 8) hlt
        have HB := Lib.hid (show bitOf p.addr k = (p.addr.getD (k / 8) 0).toNat / 2 ^ (7 - k % 8) % 2 from rfl)
        generalize (p.addr.getD (k / 8) 0).toNat = c at *
        clear hw h17
        go_wp2
        go_ret
        refine ⟨?_, HS.out.trans b1⟩
        rw [← HZ.out]
        unfold bitZ
        rw [if_pos ⟨by omega, by omega, Hr.out⟩, Int.toNat_natCast, HB.out, ← hx]
        rfl
      · rw [decide_eq_false hr] at HR
        go_enter Tryd.func22, Tryd.ntmps22
        go_wp2_with fail
        refine (HR.out _).mono ?_
        rintro e w1 ⟨rfl, b1⟩
        clear hw h17
        go_wp2
        go_ret
        refine ⟨?_, HS.out.trans b1⟩
        rw [← HZ.out]
        unfold bitZ
        rw [if_neg (by intro h; exact hr h.2.2)]
        rfl

def commonZ (p q : Px) : Int := if p.six = q.six ∧ rightP p ∧ rightP q then (comm p.addr q.addr (min p.len q.len).toNat 0 : Nat) else -1
theorem lead8 (c d : Nat) (hc : c < 256) (hd : d < 256) : Gives Tryd.prog 36 #[.int .u8 (c ^^^ d : Nat)] (.int .i64 (zer c d : Nat)) := by
  refine Gives.of_same fun w => ?_
  refine (Tryd.bits_LeadingZeros8 ((c ^^^ d : Nat) : Int) w (by omega) (by have := xor_lt8 c d hc hd; omega)).mono ?_
  rintro e w' ⟨rfl, rfl⟩
  refine ⟨?_, rfl⟩
  have := zer_len c d hc hd
  rw [Int.toNat_natCast, show ((8 : Int) - (Lib.bitLen (c ^^^ d) : Nat)) = (zer c d : Nat) by unfold zer; omega]

def CRel (W : World) (l m : List UInt8) (s i : Value) (wr : World) : Prop :=
  ∃ k : Nat, i = .int .i64 k ∧ k ≤ 16 ∧ s = .int .i64 (8 * k : Nat) ∧ comm l m (128 - 8 * k) (8 * k) = comm l m 128 0 ∧ Same W wr

set_option maxRecDepth 100000 in
theorem common (a b : Px) (ha : a.addr.length = 16) (hb : b.addr.length = 16) : Gives Tryd.prog 18 #[.agg (pc a), .agg (pc b)] (.int .i64 (commonZ a b)) := by
  intro w
  obtain ⟨hA, hB, hS⟩ := two_at w a b ha hb
  have HRa := Lib.hid (right a ha)
  have HRb := Lib.hid (right b hb)
  obtain ⟨Z, hZ⟩ : ∃ Z, commonZ a b = Z := ⟨_, rfl⟩
  rw [hZ]
  have HZ := Lib.hid hZ
  clear hZ
  obtain ⟨n, hn⟩ : ∃ n, n = 16 := ⟨16, rfl⟩
  have hsz : ∀ w, (Go.sizeOf 22).run Tryd.prog w = .ok n w := fun w => by rw [hn]; exact Tryd.sizeOf22 w
  have hn0 : ¬ n = 0 := by omega
  obtain ⟨n2, hn2⟩ : ∃ n, n = 18 := ⟨18, rfl⟩
  have hsz2 : ∀ w, (Go.sizeOf 24).run Tryd.prog w = .ok n2 w := fun w => by rw [hn2]; exact Tryd.sizeOf24 w
  have hw := hA.whole hn2
  have ha0 := hA.six
  have hb0 := hB.six
  have HA := Lib.hid hA
  have HB := Lib.hid hB
  have HS := Lib.hid hS
  have HN := Lib.hid hn
  have HN2 := Lib.hid hn2
  clear hA hB hS hn hn2
  by_cases hs : a.six = b.six
  · rw [← hs] at hb0
    by_cases hr : rightP a
    · rw [decide_eq_true hr] at HRa
      by_cases hq : rightP b
      · rw [decide_eq_true hq] at HRb
        obtain ⟨x, hx⟩ : ∃ x : Nat, a.len = x := ⟨a.len.toNat, by have := hr.1; omega⟩
        obtain ⟨y, hy⟩ : ∃ y : Nat, b.len = y := ⟨b.len.toNat, by have := hq.1; omega⟩
        have hx2 : x ≤ 128 := by have := hr.2.1; have := sizeN_le a.six; omega
        have hy2 : y ≤ 128 := by have := hq.2.1; have := sizeN_le b.six; omega
        have HZ2 := Lib.hid (show Z = ((min (comm a.addr b.addr 128 0) (min x y) : Nat) : Int) by
          rw [← HZ.out, commonZ, if_pos ⟨hs, hr, hq⟩, hx, hy, show (min (x : Int) y).toNat = min x y by omega, comm_at_most _ _ _ (by omega)])
        have HX := Lib.hid hx
        have HY := Lib.hid hy
        clear HZ hx hy hr hq
        go_enter Tryd.func18, Tryd.ntmps18
        go_wp2_with fail
        refine (HRa.out _).mono ?_
        rintro e w1 ⟨rfl, b1⟩
        have hw2 := (HB.out.mono b1).whole HN2.out
        clear hw ha0 hb0
        go_wp2_with fail
        refine (HRb.out _).mono ?_
        rintro e w2 ⟨rfl, b2⟩
        have b12 := b1.trans b2
        have HA2 := Lib.hid (HA.out.mono b12)
        have HB2 := Lib.hid (HB.out.mono b12)
        have HS2 := Lib.hid (HS.out.trans b12)
        clear hw2 b1 b2 b12 HA HB HS
        go_wp2_with fail
        go_loopw [5, 23] (fun s i wr => CRel w2 a.addr b.addr s i wr) (fun _ i _ => 16 - (intOf i).toNat)
        case atStart => exact ⟨0, rfl, by omega, rfl, rfl, Same.refl _⟩
        case round =>
          obtain ⟨k, rfl, hk, rfl, hcm, hsame⟩ := hrel
          have HC := Lib.hid hcm
          have HAr := Lib.hid (HA2.out.mono hsame)
          have HBr := Lib.hid (HB2.out.mono hsame)
          have HSr := Lib.hid (HS2.out.trans hsame)
          have HSk := Lib.hid hsame
          clear hcm hsame HA2 HB2
          by_cases hk2 : k < 16
          · have da : ∀ u : SW wr, u.1.cell? ⟨w.heap.size, 1 + k, none⟩ = some (.int .u8 ((a.addr.getD k 0).toNat : Nat)) := fun u => (HAr.out.mono u.2).byte k hk2
            have db : ∀ u : SW wr, u.1.cell? ⟨w.heap.size + 1, 1 + k, none⟩ = some (.int .u8 ((b.addr.getD k 0).toNat : Nat)) := fun u => (HBr.out.mono u.2).byte k hk2
            have hc : (a.addr.getD k 0).toNat < 256 := UInt8.toNat_lt _
            have hd : (b.addr.getD k 0).toNat < 256 := UInt8.toNat_lt _
            have hxor := u8_xor_nat _ _ hc hd
            have hlz := Lib.hid (lead8 _ _ hc hd)
            have Hone := Lib.hid (comm_byte a.addr b.addr k hk2)
            have Hstop := Lib.hid (comm_byte_stop a.addr b.addr k hk2)
            have hz8 := zer_le (a.addr.getD k 0).toNat (b.addr.getD k 0).toNat
            generalize (a.addr.getD k 0).toNat = c at *
            generalize (b.addr.getD k 0).toNat = d at *
            go_wp2_with fail
            refine wp_region_same (Same.refl _) (by kernel_rfl) (by kernel_rfl) ?_
            repeat (first | go_big_quiet_step (exact hlz.out.at _) | quiet_step (exact hlz.out.at _))
            refine wpQuiet_nil ?_
            rintro w6 ⟨⟨w7, b7⟩, rfl⟩
            have HA7 := Lib.hid (HAr.out.mono b7)
            have HB7 := Lib.hid (HBr.out.mono b7)
            clear da db hxor hlz
            generalize zer c d = z at *
            by_cases h8 : z = 8
            · go_wp2
              go_roundw
              case rel =>
                refine ⟨k + 1, by go_num, by omega, by go_num, ?_, HSk.out.trans b7⟩
                rw [← Hone.out h8]
                exact HC.out
              case measure => simp [intOf]; omega
            · have e1 := HA7.out.bits
              have e2 := HB7.out.bits
              rw [HX.out] at e1
              rw [HY.out] at e2
              have HF := Lib.hid (show comm a.addr b.addr 128 0 = 8 * k + z by rw [← HC.out]; exact Hstop.out (by omega))
              have HE := Lib.hid (HSr.out.trans b7)
              clear b7 Hone Hstop HC
              go_wp2
              all_goals
                go_ret
                refine ⟨show Ending.returned (Value.int .i64 _) = Ending.returned (Value.int .i64 Z) from congrArg (fun z => Ending.returned (Value.int .i64 z)) ?_, HE.out⟩
                have hf := HF.out
                rw [HZ2.out]
                omega
          · have e1 := HAr.out.bits
            have e2 := HBr.out.bits
            rw [HX.out] at e1
            rw [HY.out] at e2
            obtain rfl : k = 16 := by omega
            have HF := Lib.hid (show comm a.addr b.addr 128 0 = 128 by rw [← HC.out]; rfl)
            go_wp2
            all_goals
              go_ret
              refine ⟨show Ending.returned (Value.int .i64 _) = Ending.returned (Value.int .i64 Z) from congrArg (fun z => Ending.returned (Value.int .i64 z)) ?_, HSr.out⟩
              have hf := HF.out
              rw [HZ2.out]
              omega
      · rw [decide_eq_false hq] at HRb
        go_enter Tryd.func18, Tryd.ntmps18
        go_wp2_with fail
        refine (HRa.out _).mono ?_
        rintro e w1 ⟨rfl, b1⟩
        have hw2 := (HB.out.mono b1).whole HN2.out
        clear hw ha0 hb0
        go_wp2_with fail
        refine (HRb.out _).mono ?_
        rintro e w2 ⟨rfl, b2⟩
        go_wp2
        go_ret
        refine ⟨?_, (HS.out.trans b1).trans b2⟩
        rw [← HZ.out]
        unfold commonZ
        rw [if_neg (by intro h; exact hq h.2.2)]
        rfl
    · rw [decide_eq_false hr] at HRa
      go_enter Tryd.func18, Tryd.ntmps18
      go_wp2_with fail
      refine (HRa.out _).mono ?_
      rintro e w1 ⟨rfl, b1⟩
      go_wp2
      go_ret
      refine ⟨?_, HS.out.trans b1⟩
      rw [← HZ.out]
      unfold commonZ
      rw [if_neg (by intro h; exact hr h.2.1)]
      rfl
  · go_enter Tryd.func18, Tryd.ntmps18
    go_wp2
    go_ret
    refine ⟨?_, HS.out⟩
    rw [← HZ.out]
    unfold commonZ
    rw [if_neg (by intro h; exact hs h.1)]
    rfl
end Go.Proofs.YtabniphnmlbkfaaDoor
