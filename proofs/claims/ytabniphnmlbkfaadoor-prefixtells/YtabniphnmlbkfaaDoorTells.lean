/- Proved: PrefixTells: of any two prefixes, right or not, all that is told is the document's. Condition: none of our own: the listed tables start as the program's text lays them. -/
import Derived.Test.YtabniphnmlbkfaaDoorP5
namespace Go.Proofs.YtabniphnmlbkfaaDoor.LPrefixTells
open Go.RowKit

theorem andI (c r : Nat) (hc : c < 256) : bits .and .i64 (wrap64 ((c : Int) / 2 ^ r)) 1 = ((c / 2 ^ r % 2 : Nat) : Int) := and_int c r hc

def ansT (a : Px) : List UInt8 := if rightP a then textL a else []
def ansB (a : Px) : List UInt8 := if rightP a then bytesL a else []
theorem text (a : Px) (ha : a.addr.length = 16) : GivesT 20 #[.agg (pc a)] (.string ⟨(ansT a).toArray⟩) := by
  unfold ansT
  by_cases h : rightP a
  · rw [if_pos h]; exact text_ok a ha h
  · rw [if_neg h]; exact fun w _ => text_no a ha h w
theorem bytes (a : Px) (ha : a.addr.length = 16) : Gives Tryd.prog 21 #[.agg (pc a)] (.string ⟨(ansB a).toArray⟩) := by
  unfold ansB
  by_cases h : rightP a
  · rw [if_pos h]; exact bytes_ok a ha h
  · rw [if_neg h]; exact bytes_no a ha h

set_option maxRecDepth 100000 in
set_option maxHeartbeats 4000000 in
theorem walk (a b : Px) (i : Int) (w : World) (ha : a.addr.length = 16) (_ : -9223372036854775808 ≤ a.len ∧ a.len ≤ 9223372036854775807) (hb : b.addr.length = 16) (_ : -9223372036854775808 ≤ b.len ∧ b.len ≤ 9223372036854775807) (hi : -9223372036854775808 ≤ i ∧ i ≤ 9223372036854775807) (ht : Tab w) : Calls Tryd.prog 3 #[.agg (pc a), .agg (pc b), .int .i64 i] w fun e w' => e = .returned (.bool true) ∧ Same w w' := by
  obtain ⟨hA, hB, hS⟩ := two_at w a b ha hb
  have HQR := Lib.hid (qright a ha)
  have HAW := Lib.hid awake
  have HT := Lib.hid ht
  have HR := Lib.hid (right a ha)
  have HC1 := Lib.hid (compare a b ha hb)
  have HC2 := Lib.hid (qcompare a b ha hb)
  have HN1 := Lib.hid (contains a b ha hb)
  have HN2 := Lib.hid (qcontains a b ha hb)
  have HO1 := Lib.hid (common a b ha hb)
  have HO2 := Lib.hid (qcommon a b ha hb)
  have HTX := Lib.hid (text a ha)
  have HBY := Lib.hid (bytes a ha)
  have HBT := Lib.hid (bit a ha i hi)
  generalize cmpP a b = vc at *
  generalize hasB a b = vh at *
  generalize commonZ a b = vo at *
  obtain ⟨n2, hn2⟩ : ∃ n, n = 18 := ⟨18, rfl⟩
  have hsz2 : ∀ w, (Go.sizeOf 24).run Tryd.prog w = .ok n2 w := fun w => by rw [hn2]; exact Tryd.sizeOf24 w
  obtain ⟨n1, hn1⟩ : ∃ n, n = 16 := ⟨16, rfl⟩
  have hsz1 : ∀ w, (Go.sizeOf 22).run Tryd.prog w = .ok n1 w := fun w => by rw [hn1]; exact Tryd.sizeOf22 w
  have hn0 : ¬ n1 = 0 := by omega
  have hw0 := hA.whole hn2
  have HA := Lib.hid hA
  have HB := Lib.hid hB
  have HS := Lib.hid hS
  have HNn := Lib.hid hn2
  clear hA hB hS hn2 hn1 ht
  by_cases hr : rightP a
  · have HQT := Lib.hid (qtext a ha hr)
    have HQB := Lib.hid (qbytes a ha hr)
    rw [show ansT a = textL a from if_pos hr] at HTX
    rw [show ansB a = bytesL a from if_pos hr] at HBY
    rw [decide_eq_true hr] at HQR HR
    generalize textL a = T at *
    generalize bytesL a = Y at *
    by_cases h0 : 0 ≤ i ∧ i < a.len
    · obtain ⟨k, rfl⟩ : ∃ k : Nat, i = k := ⟨i.toNat, by omega⟩
      have hk : k < 128 := by have := hr.2.1; have := sizeN_le a.six; omega
      rw [show bitZ a (k : Int) = ((bitOf a.addr k : Nat) : Int) by unfold bitZ; rw [if_pos ⟨h0.1, h0.2, hr⟩, Int.toNat_natCast]] at HBT
      have hlt : (a.addr.getD (k / 8) 0).toNat < 256 := UInt8.toNat_lt _
      have hx := andI (a.addr.getD (k / 8) 0).toNat (7 - k % 8) hlt
      rw [show (a.addr.getD (k / 8) 0).toNat / 2 ^ (7 - k % 8) % 2 = bitOf a.addr k from rfl] at hx
      generalize bitOf a.addr k = vb at *
      obtain ⟨h01, h02⟩ := h0
      go_enter Tryd.func3, Tryd.ntmps3
      go_wp2_with fail
      refine (HQR.out _).mono ?_
      rintro e w1 ⟨rfl, b1⟩
      clear hw0
      have gA : ∀ u : SW w1, (loadCellsFrom ⟨w.heap.size, 0, none⟩ 0 n2 #[]).run Tryd.prog u.1 = .ok (pc a) u.1 := fun u => ((HA.out.mono b1).mono u.2).whole HNn.out
      go_wp2_with fail
      refine wp_region_same (Same.refl _) (by kernel_rfl) (by kernel_rfl) ?_
      repeat (first | go_big_quiet_step (fail) | quiet_step (fail))
      first | go_big_quiet_step (exact HQT.out.at _) | quiet_step (exact HQT.out.at _)
      repeat (first | go_big_quiet_step (fail) | quiet_step (fail))
      first | go_big_quiet_step (exact HQB.out.at _) | quiet_step (exact HQB.out.at _)
      repeat (first | go_big_quiet_step (fail) | quiet_step (fail))
      refine wpQuiet_nil ?_
      rintro w3 ⟨⟨w2, b2⟩, rfl⟩
      have b12 := b1.trans b2
      clear gA
      have h17 := (HA.out.mono b12).bits
      have hbt := (HA.out.mono b12).byte (k / 8) (by omega)
      generalize (a.addr.getD (k / 8) 0).toNat = c at *
      have c0 := HS.out.trans b12
      have HTw := Lib.hid (HT.out.mono c0)
      have fA : ∀ u : SW w3, (loadCellsFrom ⟨w.heap.size, 0, none⟩ 0 n2 #[]).run Tryd.prog u.1 = .ok (pc a) u.1 := fun u => ((HA.out.mono b12).mono u.2).whole HNn.out
      have fB : ∀ u : SW w3, (loadCellsFrom ⟨w.heap.size + 1, 0, none⟩ 0 n2 #[]).run Tryd.prog u.1 = .ok (pc b) u.1 := fun u => ((HB.out.mono b12).mono u.2).whole HNn.out
      go_wp2_with fail
      refine wp_region_same (Same.refl _) (by kernel_rfl) (by kernel_rfl) ?_
      repeat (first | go_big_quiet_step (fail) | quiet_step (fail))
      first | go_big_quiet_step (exact HAW.out.at HTw.out _) | quiet_step (exact HAW.out.at HTw.out _)
      repeat (first | go_big_quiet_step (fail) | quiet_step (fail))
      first | go_big_quiet_step (exact HR.out.at _) | quiet_step (exact HR.out.at _)
      repeat (first | go_big_quiet_step (fail) | quiet_step (fail))
      first | go_big_quiet_step (exact HC1.out.at _) | quiet_step (exact HC1.out.at _)
      repeat (first | go_big_quiet_step (fail) | quiet_step (fail))
      first | go_big_quiet_step (exact HC2.out.at _) | quiet_step (exact HC2.out.at _)
      repeat (first | go_big_quiet_step (fail) | quiet_step (fail))
      first | go_big_quiet_step (exact HN1.out.at _) | quiet_step (exact HN1.out.at _)
      repeat (first | go_big_quiet_step (fail) | quiet_step (fail))
      first | go_big_quiet_step (exact HN2.out.at _) | quiet_step (exact HN2.out.at _)
      repeat (first | go_big_quiet_step (fail) | quiet_step (fail))
      first | go_big_quiet_step (exact HO1.out.at _) | quiet_step (exact HO1.out.at _)
      repeat (first | go_big_quiet_step (fail) | quiet_step (fail))
      first | go_big_quiet_step (exact HO2.out.at _) | quiet_step (exact HO2.out.at _)
      repeat (first | go_big_quiet_step (fail) | quiet_step (fail))
      first | go_big_quiet_step (exact HTX.out.at HTw.out _) | quiet_step (exact HTX.out.at HTw.out _)
      repeat (first | go_big_quiet_step (fail) | quiet_step (fail))
      first | go_big_quiet_step (exact HBY.out.at _) | quiet_step (exact HBY.out.at _)
      repeat (first | go_big_quiet_step (fail) | quiet_step (fail))
      first | go_big_quiet_step (exact HBT.out.at _) | quiet_step (exact HBT.out.at _)
      repeat (first | go_big_quiet_step (fail) | quiet_step (fail))
      refine wpQuiet_nil ?_
      rintro w8 ⟨⟨w9, b9⟩, rfl⟩
      go_wp2
      go_ret
      exact ⟨rfl, c0.trans b9⟩
    · rw [show bitZ a i = -1 by unfold bitZ; rw [if_neg (by intro h; exact h0 ⟨h.1, h.2.1⟩)]] at HBT
      by_cases hi0 : 0 ≤ i
      · have hi1 : a.len ≤ i := by omega
        go_enter Tryd.func3, Tryd.ntmps3
        go_wp2_with fail
        refine (HQR.out _).mono ?_
        rintro e w1 ⟨rfl, b1⟩
        clear hw0
        have gA : ∀ u : SW w1, (loadCellsFrom ⟨w.heap.size, 0, none⟩ 0 n2 #[]).run Tryd.prog u.1 = .ok (pc a) u.1 := fun u => ((HA.out.mono b1).mono u.2).whole HNn.out
        go_wp2_with fail
        refine wp_region_same (Same.refl _) (by kernel_rfl) (by kernel_rfl) ?_
        repeat (first | go_big_quiet_step (fail) | quiet_step (fail))
        first | go_big_quiet_step (exact HQT.out.at _) | quiet_step (exact HQT.out.at _)
        repeat (first | go_big_quiet_step (fail) | quiet_step (fail))
        first | go_big_quiet_step (exact HQB.out.at _) | quiet_step (exact HQB.out.at _)
        repeat (first | go_big_quiet_step (fail) | quiet_step (fail))
        refine wpQuiet_nil ?_
        rintro w3 ⟨⟨w2, b2⟩, rfl⟩
        have b12 := b1.trans b2
        clear gA
        have h17 := (HA.out.mono b12).bits
        have c0 := HS.out.trans b12
        have HTw := Lib.hid (HT.out.mono c0)
        have fA : ∀ u : SW w3, (loadCellsFrom ⟨w.heap.size, 0, none⟩ 0 n2 #[]).run Tryd.prog u.1 = .ok (pc a) u.1 := fun u => ((HA.out.mono b12).mono u.2).whole HNn.out
        have fB : ∀ u : SW w3, (loadCellsFrom ⟨w.heap.size + 1, 0, none⟩ 0 n2 #[]).run Tryd.prog u.1 = .ok (pc b) u.1 := fun u => ((HB.out.mono b12).mono u.2).whole HNn.out
        go_wp2_with fail
        refine wp_region_same (Same.refl _) (by kernel_rfl) (by kernel_rfl) ?_
        repeat (first | go_big_quiet_step (fail) | quiet_step (fail))
        first | go_big_quiet_step (exact HAW.out.at HTw.out _) | quiet_step (exact HAW.out.at HTw.out _)
        repeat (first | go_big_quiet_step (fail) | quiet_step (fail))
        first | go_big_quiet_step (exact HR.out.at _) | quiet_step (exact HR.out.at _)
        repeat (first | go_big_quiet_step (fail) | quiet_step (fail))
        first | go_big_quiet_step (exact HC1.out.at _) | quiet_step (exact HC1.out.at _)
        repeat (first | go_big_quiet_step (fail) | quiet_step (fail))
        first | go_big_quiet_step (exact HC2.out.at _) | quiet_step (exact HC2.out.at _)
        repeat (first | go_big_quiet_step (fail) | quiet_step (fail))
        first | go_big_quiet_step (exact HN1.out.at _) | quiet_step (exact HN1.out.at _)
        repeat (first | go_big_quiet_step (fail) | quiet_step (fail))
        first | go_big_quiet_step (exact HN2.out.at _) | quiet_step (exact HN2.out.at _)
        repeat (first | go_big_quiet_step (fail) | quiet_step (fail))
        first | go_big_quiet_step (exact HO1.out.at _) | quiet_step (exact HO1.out.at _)
        repeat (first | go_big_quiet_step (fail) | quiet_step (fail))
        first | go_big_quiet_step (exact HO2.out.at _) | quiet_step (exact HO2.out.at _)
        repeat (first | go_big_quiet_step (fail) | quiet_step (fail))
        first | go_big_quiet_step (exact HTX.out.at HTw.out _) | quiet_step (exact HTX.out.at HTw.out _)
        repeat (first | go_big_quiet_step (fail) | quiet_step (fail))
        first | go_big_quiet_step (exact HBY.out.at _) | quiet_step (exact HBY.out.at _)
        repeat (first | go_big_quiet_step (fail) | quiet_step (fail))
        first | go_big_quiet_step (exact HBT.out.at _) | quiet_step (exact HBT.out.at _)
        repeat (first | go_big_quiet_step (fail) | quiet_step (fail))
        refine wpQuiet_nil ?_
        rintro w8 ⟨⟨w9, b9⟩, rfl⟩
        go_wp2
        go_ret
        exact ⟨rfl, c0.trans b9⟩
      · have hi1 : i < 0 := by omega
        go_enter Tryd.func3, Tryd.ntmps3
        go_wp2_with fail
        refine (HQR.out _).mono ?_
        rintro e w1 ⟨rfl, b1⟩
        clear hw0
        have gA : ∀ u : SW w1, (loadCellsFrom ⟨w.heap.size, 0, none⟩ 0 n2 #[]).run Tryd.prog u.1 = .ok (pc a) u.1 := fun u => ((HA.out.mono b1).mono u.2).whole HNn.out
        go_wp2_with fail
        refine wp_region_same (Same.refl _) (by kernel_rfl) (by kernel_rfl) ?_
        repeat (first | go_big_quiet_step (fail) | quiet_step (fail))
        first | go_big_quiet_step (exact HQT.out.at _) | quiet_step (exact HQT.out.at _)
        repeat (first | go_big_quiet_step (fail) | quiet_step (fail))
        first | go_big_quiet_step (exact HQB.out.at _) | quiet_step (exact HQB.out.at _)
        repeat (first | go_big_quiet_step (fail) | quiet_step (fail))
        refine wpQuiet_nil ?_
        rintro w3 ⟨⟨w2, b2⟩, rfl⟩
        have b12 := b1.trans b2
        clear gA
        have h17 := (HA.out.mono b12).bits
        have c0 := HS.out.trans b12
        have HTw := Lib.hid (HT.out.mono c0)
        have fA : ∀ u : SW w3, (loadCellsFrom ⟨w.heap.size, 0, none⟩ 0 n2 #[]).run Tryd.prog u.1 = .ok (pc a) u.1 := fun u => ((HA.out.mono b12).mono u.2).whole HNn.out
        have fB : ∀ u : SW w3, (loadCellsFrom ⟨w.heap.size + 1, 0, none⟩ 0 n2 #[]).run Tryd.prog u.1 = .ok (pc b) u.1 := fun u => ((HB.out.mono b12).mono u.2).whole HNn.out
        go_wp2_with fail
        refine wp_region_same (Same.refl _) (by kernel_rfl) (by kernel_rfl) ?_
        repeat (first | go_big_quiet_step (fail) | quiet_step (fail))
        first | go_big_quiet_step (exact HAW.out.at HTw.out _) | quiet_step (exact HAW.out.at HTw.out _)
        repeat (first | go_big_quiet_step (fail) | quiet_step (fail))
        first | go_big_quiet_step (exact HR.out.at _) | quiet_step (exact HR.out.at _)
        repeat (first | go_big_quiet_step (fail) | quiet_step (fail))
        first | go_big_quiet_step (exact HC1.out.at _) | quiet_step (exact HC1.out.at _)
        repeat (first | go_big_quiet_step (fail) | quiet_step (fail))
        first | go_big_quiet_step (exact HC2.out.at _) | quiet_step (exact HC2.out.at _)
        repeat (first | go_big_quiet_step (fail) | quiet_step (fail))
        first | go_big_quiet_step (exact HN1.out.at _) | quiet_step (exact HN1.out.at _)
        repeat (first | go_big_quiet_step (fail) | quiet_step (fail))
        first | go_big_quiet_step (exact HN2.out.at _) | quiet_step (exact HN2.out.at _)
        repeat (first | go_big_quiet_step (fail) | quiet_step (fail))
        first | go_big_quiet_step (exact HO1.out.at _) | quiet_step (exact HO1.out.at _)
        repeat (first | go_big_quiet_step (fail) | quiet_step (fail))
        first | go_big_quiet_step (exact HO2.out.at _) | quiet_step (exact HO2.out.at _)
        repeat (first | go_big_quiet_step (fail) | quiet_step (fail))
        first | go_big_quiet_step (exact HTX.out.at HTw.out _) | quiet_step (exact HTX.out.at HTw.out _)
        repeat (first | go_big_quiet_step (fail) | quiet_step (fail))
        first | go_big_quiet_step (exact HBY.out.at _) | quiet_step (exact HBY.out.at _)
        repeat (first | go_big_quiet_step (fail) | quiet_step (fail))
        first | go_big_quiet_step (exact HBT.out.at _) | quiet_step (exact HBT.out.at _)
        repeat (first | go_big_quiet_step (fail) | quiet_step (fail))
        refine wpQuiet_nil ?_
        rintro w8 ⟨⟨w9, b9⟩, rfl⟩
        go_wp2
        go_ret
        exact ⟨rfl, c0.trans b9⟩
  · rw [show bitZ a i = -1 by unfold bitZ; rw [if_neg (by intro h; exact hr h.2.2)]] at HBT
    rw [show ansT a = [] from if_neg hr] at HTX
    rw [show ansB a = [] from if_neg hr] at HBY
    rw [decide_eq_false hr] at HQR HR
    go_enter Tryd.func3, Tryd.ntmps3
    go_wp2_with fail
    refine (HQR.out _).mono ?_
    rintro e w1 ⟨rfl, b1⟩
    clear hw0
    have c0 := HS.out.trans b1
    have HTw := Lib.hid (HT.out.mono c0)
    have fA : ∀ u : SW w1, (loadCellsFrom ⟨w.heap.size, 0, none⟩ 0 n2 #[]).run Tryd.prog u.1 = .ok (pc a) u.1 := fun u => ((HA.out.mono b1).mono u.2).whole HNn.out
    have fB : ∀ u : SW w1, (loadCellsFrom ⟨w.heap.size + 1, 0, none⟩ 0 n2 #[]).run Tryd.prog u.1 = .ok (pc b) u.1 := fun u => ((HB.out.mono b1).mono u.2).whole HNn.out
    go_wp2_with fail
    refine wp_region_same (Same.refl _) (by kernel_rfl) (by kernel_rfl) ?_
    repeat (first | go_big_quiet_step (fail) | quiet_step (fail))
    first | go_big_quiet_step (exact HAW.out.at HTw.out _) | quiet_step (exact HAW.out.at HTw.out _)
    repeat (first | go_big_quiet_step (fail) | quiet_step (fail))
    first | go_big_quiet_step (exact HR.out.at _) | quiet_step (exact HR.out.at _)
    repeat (first | go_big_quiet_step (fail) | quiet_step (fail))
    first | go_big_quiet_step (exact HC1.out.at _) | quiet_step (exact HC1.out.at _)
    repeat (first | go_big_quiet_step (fail) | quiet_step (fail))
    first | go_big_quiet_step (exact HC2.out.at _) | quiet_step (exact HC2.out.at _)
    repeat (first | go_big_quiet_step (fail) | quiet_step (fail))
    first | go_big_quiet_step (exact HN1.out.at _) | quiet_step (exact HN1.out.at _)
    repeat (first | go_big_quiet_step (fail) | quiet_step (fail))
    first | go_big_quiet_step (exact HN2.out.at _) | quiet_step (exact HN2.out.at _)
    repeat (first | go_big_quiet_step (fail) | quiet_step (fail))
    first | go_big_quiet_step (exact HO1.out.at _) | quiet_step (exact HO1.out.at _)
    repeat (first | go_big_quiet_step (fail) | quiet_step (fail))
    first | go_big_quiet_step (exact HO2.out.at _) | quiet_step (exact HO2.out.at _)
    repeat (first | go_big_quiet_step (fail) | quiet_step (fail))
    first | go_big_quiet_step (exact HTX.out.at HTw.out _) | quiet_step (exact HTX.out.at HTw.out _)
    repeat (first | go_big_quiet_step (fail) | quiet_step (fail))
    first | go_big_quiet_step (exact HBY.out.at _) | quiet_step (exact HBY.out.at _)
    repeat (first | go_big_quiet_step (fail) | quiet_step (fail))
    first | go_big_quiet_step (exact HBT.out.at _) | quiet_step (exact HBT.out.at _)
    repeat (first | go_big_quiet_step (fail) | quiet_step (fail))
    refine wpQuiet_nil ?_
    rintro w8 ⟨⟨w9, b9⟩, rfl⟩
    go_wp2
    go_ret
    exact ⟨rfl, c0.trans b9⟩

open Go.ChangeShapes Go.WideShapes Go.ChangeAt
set_option maxRecDepth 100000 in
theorem lifted (os : Os) (started : os.Started) (H : Type) (enc : TypeId × Value → H) :
    ReturnsInHanded {} Tryd.checked os 3 .any (fun w args => (Rows.prefixTellsSpec.pre enc Tryd.prog Tryd.f3 [] false w args ∧ laidMetH Tryd.prog laid3 w) ∧ sizedMet enc Tryd.prog Tryd.f3 (OpenSpec.ofChange Rows.prefixTellsSpec) false w args)
      (Rows.prefixTellsSpec.post enc Tryd.prog Tryd.f3 false true false false) := by
  refine returnsInHanded_of_change_and (C := Tryd.checked) (X := fun w _ => laidMetH Tryd.prog laid3 w) (fun _ _ _ hh h => h.of_heap hh) own started (by kernel_rfl) Tryd.func3
    (ChangeSpec.witness_shaped (enc := enc) (C := Tryd.checked) (os := os) (X := fun w _ => laidMetH Tryd.prog laid3 w) false (World.doorLaid Tryd.prog 400 os) #[.agg (pc zeroP), .agg (pc zeroP), .int .i64 0] 8 rfl (World.shaped_of_RefB (by kernel_rfl) (by kernel_rfl)) (by kernel_rfl) (by kernel_rfl) (by kernel_rfl) (door_met os _)) ?_
  intro W base args ds gs before hval0 hW _ _ hL _
  have hval : ∀ (j : Nat) t v, Tryd.f3.params[j]? = some t → args[j]? = some v → Value.okWide Tryd.prog W .any base t v := hval0
  have hW' := hW
  obtain ⟨p, q, hA0, hV, rfl, hfz, hnd⟩ := hW
  have hA : DataW.TrodAll enc Tryd.prog W 0 (fun _ => true) true Tryd.f3.params.toList args.toList ds p := hA0

  rw [Tryd.params3] at hA hval
  obtain ⟨v0, vs0, d0, ds0, p0, q0, hargs, rfl, rfl, h0, r0⟩ := trodAll_cons hA
  obtain ⟨v1, vs1, d1, ds1, p1, q1, rfl, rfl, rfl, h1, r1⟩ := trodAll_cons r0
  obtain ⟨v2, vs2, d2, ds2, p2, q2, rfl, rfl, rfl, h2, r2⟩ := trodAll_cons r1
  obtain ⟨rfl, rfl, rfl⟩ := trodAll_nil r2
  obtain rfl : args = #[v0, v1, v2] := by cases args; simp_all
  obtain ⟨rfl, rfl⟩ := trodVars_none hV
  have k0 := h0
  have lt0 : ∀ x ∈ p0, x.block < W.heap.size := by obtain ⟨m, hm⟩ := k0; exact DataW.trod_lt m _ _ _ hm
  have k1 := h1
  have lt1 : ∀ x ∈ p1, x.block < W.heap.size := by obtain ⟨m, hm⟩ := k1; exact DataW.trod_lt m _ _ _ hm
  have k2 := h2
  have lt2 : ∀ x ∈ p2, x.block < W.heap.size := by obtain ⟨m, hm⟩ := k2; exact DataW.trod_lt m _ _ _ hm
  obtain ⟨a0, rfl, l0, w0⟩ := open_prefix (hval 0 24 v0 rfl rfl) h0
  obtain ⟨a1, rfl, l1, w1⟩ := open_prefix (hval 1 24 v1 rfl rfl) h1
  obtain ⟨a2, rfl, _, _, w2⟩ := open_int Tryd.underlying3 (hval 2 3 v2 rfl rfl) h2
  clear hA0 hval0
  refine (walk a0 a1 a2 W l0 (bounds_i64 w0) l1 (bounds_i64 w1) (bounds_i64 w2) (of_laid hL)).mono fun e W' ⟨he, bel0⟩ => ?_
  subst he
  have bel : Below W.heap.size W W' := bel0
  exact ⟨_, rfl, _, _, _, [], _, [], hW', trodAll_mk1 (shut_bool Tryd.underlying4 _), (trodAll_cons_mk (Below.trod laidOut (by kernel_rfl) (of_decide_eq_true (by kernel_rfl)) k0 bel lt0) (trodAll_cons_mk (Below.trod laidOut (by kernel_rfl) (of_decide_eq_true (by kernel_rfl)) k1 bel lt1) (trodAll_cons_mk (Below.trod laidOut (by kernel_rfl) (of_decide_eq_true (by kernel_rfl)) k2 bel lt2) trodAll_mk0))), rfl, bel.frame _, fun h => by cases h⟩

theorem over : Rows.prefixTellsRow.holds Tryd.pinned (OpenSpec.ofChange Rows.prefixTellsSpec) :=
  OpenClaim.holds_of_wide 3 Tryd.f3 rfl rfl rfl rfl rfl rfl rfl ⟨rfl, rfl, rfl, rfl, rfl⟩ rfl rfl rfl rfl rfl (by kernel_rfl) Tryd.func3 (by kernel_rfl)
    (of_decide_eq_true (by kernel_rfl)) (by unfold Func.isWrapper; first | (rw [if_pos (by decide +kernel)]; kernel_rfl) | (rw [if_neg (by decide +kernel)]; exact ⟨rfl, rfl⟩))
    (fun os started H enc _ => lifted os started H enc)
theorem card : Claim7.holds Tryd.pinned (.plain (OpenSpec.ofChange Rows.prefixTellsSpec)) Rows.prefixTellsCard :=
  Claim7.holds_tied_plain_at .later [] [.data, .data, .data] true (true, "99f48ac142fb8160a383948506df205cf7e87e3fed5a7f28b0a4a6954dfb29c2") false
    over (fun _ h => by cases h) (by kernel_rfl) (fun _ h => by cases h) prefixTells_row_tie rfl ⟨rfl, rfl⟩ (by kernel_rfl) rfl
    (fun f fn hf hfn => by
      obtain rfl : f = 3 := Option.some.inj ((show Tryd.prog.funcNamed Rows.prefixTellsRow.func = some 3 by kernel_rfl).symm.trans hf) |>.symm
      obtain rfl : fn = Tryd.f3 := (Option.some.inj (Tryd.func3.symm.trans hfn)).symm
      exact ⟨by kernel_rfl, fun j t ht => by
        rw [Tryd.params3] at ht
        have hm : t ∈ [24, 24, 3] := by simpa using Array.mem_of_getElem? ht
        have hall : ([24, 24, 3].all fun u => !Tryd.prog.wantsStandIn u) = true := by kernel_rfl
        exact (show Tryd.prog.wantsStandIn t = false by simpa using List.all_eq_true.1 hall t hm)⟩)
    (by kernel_rfl)
end Go.Proofs.YtabniphnmlbkfaaDoor.LPrefixTells

namespace Go.Proofs.YtabniphnmlbkfaaDoor
theorem prefixTells_holds : Rows.PrefixTellsCardSaid := LPrefixTells.card
#print axioms prefixTells_holds
end Go.Proofs.YtabniphnmlbkfaaDoor

