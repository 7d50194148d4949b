/- Proved: how prefixes and addresses lie in memory; what prefix's size, fits and need, and the document's most and bit answer. Condition: numbers fit. -/
import Derived.Test.YtgocmolebanflaaA
import Derived.Test.YtgocmolebanflaaP2
import Derived.Deep.WholeRow
import Derived.Laws.BitsAllLaws
namespace Go.Proofs.Ytgocmolebanflaa
open Go.RowKit

def bv (c : UInt8) : Value := .int .u8 (c.toNat : Nat)
def ac (l : List UInt8) : Array Value := (l.map bv).toArray
structure Px where
  six : Bool
  addr : List UInt8
  len : Int
def pc (p : Px) : Array Value := (.bool p.six :: (p.addr.map bv ++ [.int .i64 p.len])).toArray

def sizeN (s : Bool) : Nat := if s then 16 else 4
def fitsB (s : Bool) (n : Int) : Bool := decide (0 ≤ n ∧ n ≤ 8 * sizeN s)

theorem size_at (s : Bool) : Gives Try.prog 70 #[.bool s] (.int .i64 (sizeN s : Nat)) := by
  refine Gives.of_same fun w => ?_
  go_enter Try.func70, Try.ntmps70
  cases s <;> (go_wp2; go_ret; exact ⟨rfl, rfl⟩)
theorem most_at (s : Bool) : Gives Try.prog 53 #[.bool s] (.int .i64 (8 * sizeN s : Nat)) := by
  refine Gives.of_same fun w => ?_
  go_enter Try.func53, Try.ntmps53
  cases s <;> (go_wp2; go_ret; exact ⟨rfl, rfl⟩)
theorem sizeN_le (s : Bool) : sizeN s ≤ 16 := by cases s <;> decide
theorem fits_at (s : Bool) (n : Int) : Gives Try.prog 55 #[.bool s, .int .i64 n] (.bool (fitsB s n)) := by
  have hsz := Lib.hid (size_at s)
  have hle := sizeN_le s
  unfold fitsB
  intro w
  go_enter Try.func55, Try.ntmps55
  by_cases h : 0 ≤ n
  · go_wp2_with fail
    refine (hsz.out _).mono ?_
    rintro e w1 ⟨rfl, b1⟩
    go_wp2
    go_ret
    refine ⟨?_, b1⟩
    rw [show decide (0 ≤ n ∧ n ≤ 8 * (sizeN s : Int)) = decide (n ≤ 8 * (sizeN s : Int)) by simp [h]]
    rfl
  · go_wp2_with fail
    go_ret
    rw [show decide (0 ≤ n) = false by simpa using h]
    exact ⟨rfl, Same.refl w⟩
theorem need_at (n : Nat) (h : n ≤ 128) (w : World) : Calls Try.prog 71 #[.int .i64 n] w fun e w' => e = .returned (.int .i64 (needN n : Nat)) ∧ w' = w := by
  go_enter Try.func71, Try.ntmps71
  go_wp2
  go_ret
  exact ⟨rfl, rfl⟩
theorem ac_get (l : List UInt8) (i : Nat) (h : i < l.length) : (ac l)[i]? = some (.int .u8 (l[i].toNat : Nat)) := by
  simp [ac, h, bv]
theorem shr_byte (c : UInt8) (k : Nat) : (c.toNat : Int) / 2 ^ k = ((c.toNat / 2 ^ k : Nat) : Int) := by
  simp
theorem bit_num (c k : Nat) (hc : c < 2 ^ 8) : (wrap64 ((c : Int) / 2 ^ k)).tmod 2 = ((c / 2 ^ k % 2 : Nat) : Int) := by
  have h : ((c : Int) / 2 ^ k) = ((c / 2 ^ k : Nat) : Int) := by simp
  have h2 : c / 2 ^ k ≤ c := Nat.div_le_self _ _
  rw [h]
  generalize c / 2 ^ k = z at *
  rw [show wrap64 (z : Int) = z by unfold wrap64; omega, Int.tmod_eq_emod_of_nonneg (by omega)]
  omega
theorem bit_at (l : List UInt8) (hl : l.length = 16) (i : Nat) (hi : i < 128) : Gives Try.prog 54 #[.agg (ac l), .int .i64 i] (.int .i64 ((l[i / 8]'(by omega)).toNat / 2 ^ (7 - i % 8) % 2 : Nat)) := by
  have hc := ac_get l (i / 8) (by omega)
  have hlt := (l[i / 8]'(by omega)).toNat_lt
  generalize (l[i / 8]'(by omega)).toNat = c at *
  generalize ac l = A at *
  intro w
  go_enter Try.func54, Try.ntmps54
  go_wp2
  go_ret
  refine ⟨?_, (Same.refl w).alloc _⟩
  rw [show ((c / 2 ^ (7 - i % 8) % 2 : Nat) : Int) = (wrap64 ((c : Int) / 2 ^ (7 - i % 8))).tmod 2 from (bit_num c (7 - i % 8) hlt).symm]
  rfl

theorem pc_six (p : Px) : (pc p)[0]? = some (.bool p.six) := by simp [pc]
theorem pc_len (p : Px) (h : p.addr.length = 16) : (pc p)[17]? = some (.int .i64 p.len) := by
  simp [pc, h]
theorem pc_get (p : Px) (i : Nat) (h : i < p.addr.length) : (pc p)[1 + i]? = some (.int .u8 (p.addr[i].toNat : Nat)) := by
  rw [Nat.add_comm]
  simp [pc, List.getElem?_append, h, bv]
theorem pc_size (p : Px) (h : p.addr.length = 16) : (pc p).size = 18 := by simp [pc, h]
theorem load_part {P : Program} {w : World} {b o n : Nat} {c : Array Value} {t : TypeId} {fz : Nat × Nat} (l : List Value) (hn : l.length = n) (h : w.heap[b]? = some (.cells c t fz)) (hl : ∀ j v, l[j]? = some v → c[o + j]? = some v) :
    (loadCellsFrom ⟨b, o, none⟩ 0 n #[]).run P w = .ok l.toArray w := by
  subst hn
  have := run_loadCells_list (P := P) w ⟨b, o, none⟩ l (fun j v hv => by
    have hadd : (⟨b, o, none⟩ : Addr).add j = ⟨b, o + j, none⟩ := by unfold Addr.add; split <;> simp_all
    rw [hadd, cell_of_row _ _ _ c t fz h]
    exact hl j v hv)
  simpa [loadCells] using this
theorem load_addr {P : Program} {w : World} {b n : Nat} {t : TypeId} {fz : Nat × Nat} (p : Px) (hp : p.addr.length = n) (h : w.heap[b]? = some (.cells (pc p) t fz)) :
    (loadCellsFrom ⟨b, 1, none⟩ 0 n #[]).run P w = .ok (ac p.addr) w := by
  refine load_part (p.addr.map bv) (by simpa using hp) h ?_
  intro j v hv
  have hj : j < p.addr.length := by
    have := (List.getElem?_eq_some_iff.1 hv).1
    simpa using this
  rw [pc_get p j hj]
  simp [hj, bv] at hv
  rw [hv]

theorem bit_of (l : List UInt8) (hl : l.length = 16) (i : Nat) (hi : i < 128) : Gives Try.prog 54 #[.agg (ac l), .int .i64 i] (.int .i64 (bitOf l i : Nat)) := by
  have h := bit_at l hl i hi
  rw [show bitOf l i = (l[i / 8]'(by omega)).toNat / 2 ^ (7 - i % 8) % 2 by unfold bitOf; simp [show i / 8 < l.length by omega]]
  exact h

def rightP (p : Px) : Prop := 0 ≤ p.len ∧ p.len ≤ 8 * sizeN p.six ∧ tailZ p.addr p.len.toNat
instance (p : Px) : Decidable (rightP p) := by unfold rightP; infer_instance

def RRel (w : World) (l : List UInt8) (a : Nat) (i : Value) (wr : World) : Prop := ∃ k : Nat, i = .int .i64 k ∧ a ≤ k ∧ k ≤ 128 ∧ (∀ j, a ≤ j → j < k → bitOf l j = 0) ∧ Same w wr

/-- A block that lay there lies there yet. -/
theorem SW.block {w : World} {b : Nat} (u : SW w) {o : Obj} (h : w.heap[b]? = some o) : u.1.heap[b]? = some o := by
  have hb : b < w.heap.size := by
    rcases Nat.lt_or_ge b w.heap.size with h1 | h1
    · exact h1
    · rw [Array.getElem?_eq_none h1] at h
      cases h
  rw [← h]
  exact u.2.block b hb
theorem Same.obj {w w' : World} {b : Nat} (k : Same w w') {o : Obj} (h : w.heap[b]? = some o) : w'.heap[b]? = some o := SW.block ⟨w', k⟩ h
theorem cell_obj {w : World} {b i : Nat} {c : Array Value} {t : TypeId} {fz : Nat × Nat} {v : Value} (h : w.heap[b]? = some (.cells c t fz)) (hv : c[i]? = some v) : w.cell? ⟨b, i, none⟩ = some v := by
  rw [cell_of_row _ _ _ _ _ _ h, hv]

set_option maxRecDepth 100000 in
theorem qright_at (p : Px) (hp : p.addr.length = 16) (w : World) : Calls Try.prog 42 #[.agg (pc p)] w fun e w' => e = .returned (.bool (decide (rightP p))) ∧ Same w w' := by
  have c0 := pc_six p
  have c17 := pc_len p hp
  have hle := sizeN_le p.six
  have hm := Lib.hid (most_at p.six)
  obtain ⟨n, hn⟩ : ∃ n, n = 16 := ⟨16, rfl⟩
  have hsz : ∀ w, (Go.sizeOf 23).run Try.prog w = .ok n w := fun w => by rw [hn]; exact Try.sizeOf23 w
  have Hload := Lib.hid (fun (w : World) (b : Nat) (h : w.heap[b]? = some (.cells (pc p) 25 (0, 0))) => load_addr (P := Try.prog) (n := n) p (by omega) h)
  have Hbit := Lib.hid (fun i h => bit_of p.addr hp i h)
  obtain ⟨R, hR⟩ : ∃ R, decide (rightP p) = R := ⟨_, rfl⟩
  rw [hR]
  have HR := Lib.hid hR
  clear hR
  generalize pc p = A at *
  have hn0 : ¬ n = 0 := by omega
  have HN := Lib.hid hn
  clear hn
  have hb0 : (w.alloc (.cells A 25)).heap[w.heap.size]? = some (.cells A 25) := heap_alloc_last w _
  have hs0 : Same w (w.alloc (.cells A 25)) := (Same.refl w).alloc _
  have d0 : ∀ u : SW (w.alloc (.cells A 25)), u.1.cell? ⟨w.heap.size, 0, none⟩ = some (.bool p.six) := fun u => cell_obj (u.block hb0) c0
  have d17 : ∀ u : SW (w.alloc (.cells A 25)), u.1.cell? ⟨w.heap.size, 17, none⟩ = some (.int .i64 p.len) := fun u => cell_obj (u.block hb0) c17
  have HB := Lib.hid hb0
  have HS := Lib.hid hs0
  clear hb0 hs0 c0 c17
  by_cases h0 : p.len < 0
  · go_enter Try.func42, Try.ntmps42
    go_wp2_with fail
    refine wp_region_same (Same.refl _) (by kernel_rfl) (by kernel_rfl) ?_
    repeat (first | go_big_quiet_step (exact hm.out.at _) | quiet_step (exact hm.out.at _))
    refine wpQuiet_nil ?_
    rintro w6 ⟨⟨w7, b7⟩, rfl⟩
    go_wp2
    go_ret
    have hr := HR.out
    rw [decide_eq_false (by unfold rightP; omega)] at hr
    exact ⟨by rw [← hr]; rfl, HS.out.trans b7⟩
  · by_cases h1 : p.len ≤ 8 * sizeN p.six
    · go_enter Try.func42, Try.ntmps42
      go_wp2_with fail
      refine wp_region_same (Same.refl _) (by kernel_rfl) (by kernel_rfl) ?_
      repeat (first | go_big_quiet_step (exact hm.out.at _) | quiet_step (exact hm.out.at _))
      refine wpQuiet_nil ?_
      rintro w6 ⟨⟨w7, b7⟩, rfl⟩
      have HB7 := Lib.hid (b7.obj HB.out)
      have e17 := d17 ⟨w6, b7⟩
      have HS7 := Lib.hid (HS.out.trans b7)
      simp only at e17
      clear HB HS d0 d17 b7
      obtain ⟨k, hk⟩ : ∃ k : Nat, p.len = k := ⟨p.len.toNat, by omega⟩
      rw [hk] at e17 h1 ⊢
      go_wp2
      go_loopw [3] (fun i wr => RRel w6 p.addr k i wr) (fun i _ => 128 - (intOf i).toNat)
      case atStart => exact ⟨k, rfl, by omega, by omega, fun j h1 h2 => by omega, Same.refl _⟩
      case round =>
        obtain ⟨i, rfl, hki, hi, hz, hsame⟩ := hrel
        have HZ := Lib.hid hz
        have HB8 := Lib.hid (hsame.obj HB7.out)
        have HS8 := Lib.hid hsame
        have hl := Hload.out _ _ HB8.out
        clear hz hsame e17
        by_cases h2 : i < 128
        · have hb := Hbit.out i h2
          have hb2 := Lib.hid hb
          clear hb
          by_cases h3 : bitOf p.addr i = 0
          · go_wp2_with fail
            refine (hb2.out _).mono ?_
            rintro e w9 ⟨rfl, b9⟩
            go_wp2
            go_roundw
            case rel =>
              refine ⟨i + 1, by go_num, by omega, by omega, fun j h4 h5 => ?_, HS8.out.trans b9⟩
              rcases Nat.lt_or_ge j i with h6 | h6
              · exact HZ.out j h4 h6
              · obtain rfl : j = i := by omega
                exact h3
            case measure => simp [intOf]; omega
          · go_wp2_with fail
            refine (hb2.out _).mono ?_
            rintro e w9 ⟨rfl, b9⟩
            go_wp2
            go_ret
            have hr := HR.out
            rw [decide_eq_false (by intro h; exact h3 (h.2.2 i (by omega) h2))] at hr
            exact ⟨by rw [← hr]; rfl, (HS7.out.trans HS8.out).trans b9⟩
        · go_wp2
          go_ret
          have hr := HR.out
          rw [decide_eq_true (show rightP p from ⟨by omega, by omega, fun j h4 h5 => HZ.out j (by omega) (by omega)⟩)] at hr
          exact ⟨by rw [← hr]; rfl, HS7.out.trans HS8.out⟩
    · go_enter Try.func42, Try.ntmps42
      go_wp2_with fail
      refine wp_region_same (Same.refl _) (by kernel_rfl) (by kernel_rfl) ?_
      repeat (first | go_big_quiet_step (exact hm.out.at _) | quiet_step (exact hm.out.at _))
      refine wpQuiet_nil ?_
      rintro w6 ⟨⟨w7, b7⟩, rfl⟩
      go_wp2
      go_ret
      have hr := HR.out
      rw [decide_eq_false (by unfold rightP; omega)] at hr
      exact ⟨by rw [← hr]; rfl, HS.out.trans b7⟩
end Go.Proofs.Ytgocmolebanflaa
