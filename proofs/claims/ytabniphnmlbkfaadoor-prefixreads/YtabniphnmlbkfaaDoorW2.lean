/- Proved: what Text of the document answers. Condition: an address has sixteen bytes; the prefix may be. -/
import Derived.Test.YtabniphnmlbkfaaDoorW
namespace Go.Proofs.YtabniphnmlbkfaaDoor
open Go.RowKit

theorem four_short (l : List UInt8) : ∀ n, (four l n).length ≤ 4 * n
  | 0 => by simp [four]
  | n + 1 => by
    have := four_short l n
    have h := dec_len (l.getD n 0).toNat (by have := (l.getD n 0).toNat_lt; omega)
    rw [four_succ, List.length_append, List.length_append]
    split <;> simp only [List.length_cons, List.length_nil] <;> omega
theorem hex_ext : ∀ a : Fin 16, (⟨#[48, 49, 50, 51, 52, 53, 54, 55, 56, 57, 97, 98, 99, 100, 101, 102]⟩ : ByteArray).extract a.val (a.val + 1) = ⟨#[hexD a.val]⟩ := by decide
theorem six_app1 (l : List UInt8) (a b : UInt8) : (⟨(l ++ ([58] ++ [a, b])).toArray⟩ : ByteArray) = ⟨l.toArray⟩ ++ ⟨#[58]⟩ ++ (⟨#[a]⟩ ++ ⟨#[b]⟩) := by
  have h1 := app_list l [58]
  have h2 := app_list [a] [b]
  have h3 := app_list (l ++ [58]) ([a] ++ [b])
  rw [← h1, ← h2] at h3
  rw [show l ++ ([58] ++ [a, b]) = l ++ [58] ++ ([a] ++ [b]) by simp, ← h3]
theorem six_app2 (l : List UInt8) (a b : UInt8) : (⟨(l ++ [a, b]).toArray⟩ : ByteArray) = ⟨l.toArray⟩ ++ (⟨#[a]⟩ ++ ⟨#[b]⟩) := by
  have h2 := app_list [a] [b]
  have h3 := app_list l ([a] ++ [b])
  rw [← h2] at h3
  rw [show l ++ [a, b] = l ++ ([a] ++ [b]) by simp, ← h3]
def QTRel (w : World) (p : Px) (s i : Value) (wr : World) : Prop :=
  ∃ k : Nat, i = .int .i64 k ∧ k ≤ 4 ∧ s = .string ⟨(four p.addr k).toArray⟩ ∧ At wr w.heap.size p ∧ Same w wr
def QSRel (w : World) (p : Px) (s i : Value) (wr : World) : Prop :=
  ∃ k : Nat, i = .int .i64 k ∧ k ≤ 16 ∧ s = .string ⟨(sixth p.addr k).toArray⟩ ∧ At wr w.heap.size p ∧ Same w wr

set_option maxRecDepth 100000 in
set_option maxHeartbeats 1000000 in
theorem qtext (p : Px) (hp : p.addr.length = 16) (hr : rightP p) : Gives Tryd.prog 10 #[.agg (pc p)] (.string ⟨(textL p).toArray⟩) := by
  intro w
  obtain ⟨hA, hS⟩ := one_at w p hp
  obtain ⟨n1, hn1⟩ : ∃ n, n = 16 := ⟨16, rfl⟩
  have hsz1 : ∀ w, (Go.sizeOf 22).run Tryd.prog w = .ok n1 w := fun w => by rw [hn1]; exact Tryd.sizeOf22 w
  have hn0 : ¬ n1 = 0 := by omega
  obtain ⟨m, hk⟩ : ∃ k : Nat, p.len = k := ⟨p.len.toNat, by have := hr.1; omega⟩
  have hk2 : m ≤ 128 := by have := hr.2.1; have := sizeN_le p.six; omega
  have HX := Lib.hid (show textL p = addrL p.six p.addr ++ 47 :: dec m by unfold textL; rw [hk, Int.toNat_natCast])
  have h0 := hA.six
  have HA := Lib.hid hA
  have HS := Lib.hid hS
  have HK := Lib.hid hk
  have HD := Lib.hid (qdigits m (by omega))
  have hd := dec_len m (by omega)
  clear hA hS hn1 hr hk
  cases hs : p.six
  · rw [hs] at h0 HX
    go_enter Tryd.func10, Tryd.ntmps10
    go_wp2
    clear h0
    go_loopw [3, 4] (fun s i wr => QTRel w p s i wr) (fun _ i _ => 5 - (intOf i).toNat)
    case atStart => exact ⟨0, rfl, by omega, rfl, HA.out, HS.out⟩
    case round =>
      obtain ⟨k, rfl, hk, rfl, hA, hsame⟩ := hrel
      have HAr := Lib.hid hA
      have HSr := Lib.hid hsame
      have hfl := four_short p.addr k
      clear hA hsame HA HS
      by_cases hk2 : k < 4
      · have hb := HAr.out.byte k (by omega)
        have hlt : (p.addr.getD k 0).toNat < 256 := UInt8.toNat_lt _
        have Hn := Lib.hid (four_succ p.addr k)
        generalize (p.addr.getD k 0).toNat = c at *
        have Hdc := Lib.hid (qdigits c (by omega))
        have hdl := dec_len c (by omega)
        by_cases hk0 : 0 < k
        · rw [if_pos hk0] at Hn
          go_wp2_with fail
          refine (Hdc.out _).mono ?_
          rintro e w1 ⟨rfl, b1⟩
          have Hrel := Lib.hid (show QTRel w p (.string (⟨(four p.addr k).toArray⟩ ++ ⟨#[46]⟩ ++ ⟨(dec c).toArray⟩)) (.int .i64 (k + 1 : Nat)) w1 from ⟨k + 1, rfl, by omega, by rw [Hn.out, ← List.append_assoc, ← app_list, ← app_list], HAr.out.mono b1, HSr.out.trans b1⟩)
          go_wp2
          go_roundw
          case rel => exact Hrel.out
          case measure => simp [intOf]; omega
        · rw [if_neg hk0, List.nil_append] at Hn
          obtain rfl : k = 0 := by omega
          go_wp2_with fail
          refine (Hdc.out _).mono ?_
          rintro e w1 ⟨rfl, b1⟩
          have Hrel := Lib.hid (show QTRel w p (.string (⟨(four p.addr 0).toArray⟩ ++ ⟨(dec c).toArray⟩)) (.int .i64 (0 + 1 : Nat)) w1 from ⟨0 + 1, rfl, by omega, by rw [Hn.out, ← app_list], HAr.out.mono b1, HSr.out.trans b1⟩)
          go_wp2
          go_roundw
          case rel => exact Hrel.out
          case measure => simp [intOf]
      · obtain rfl : k = 4 := by omega
        have h17 := HAr.out.bits
        rw [HK.out] at h17
        go_wp2_with fail
        refine (HD.out _).mono ?_
        rintro e w3 ⟨rfl, b3⟩
        go_wp2
        go_ret
        refine ⟨?_, HSr.out.trans b3⟩
        rw [HX.out, show addrL false p.addr ++ 47 :: dec m = (four p.addr 4 ++ [47]) ++ dec m by simp [addrL], ← app_list, ← app_list]
        rfl
  · rw [hs] at h0 HX
    go_enter Tryd.func10, Tryd.ntmps10
    go_wp2
    clear h0
    go_loopw [3, 6] (fun s i wr => QSRel w p s i wr) (fun _ i _ => 17 - (intOf i).toNat)
    case atStart => exact ⟨0, rfl, by omega, rfl, HA.out, HS.out⟩
    case round =>
      obtain ⟨k, rfl, hk, rfl, hA, hsame⟩ := hrel
      have HAr := Lib.hid hA
      have HSr := Lib.hid hsame
      have hfl := sixth_short p.addr k
      clear hA hsame HA HS
      by_cases hk2 : k < 16
      · have hb : ∀ u : SW wr, u.1.cell? ⟨w.heap.size, 1 + k, none⟩ = some (.int .u8 ((p.addr.getD k 0).toNat : Nat)) := fun u => (HAr.out.mono u.2).byte k hk2
        have hlt : (p.addr.getD k 0).toNat < 256 := UInt8.toNat_lt _
        have Hn := Lib.hid (sixth_succ p.addr k)
        generalize (p.addr.getD k 0).toNat = c at *
        have e1 : (c : Int) / 16 = ((c / 16 : Nat) : Int) := by omega
        have e2 : (c : Int) % 16 = ((c % 16 : Nat) : Int) := by omega
        have e3 : (c : Int).tmod 16 = ((c % 16 : Nat) : Int) := by rw [Int.tmod_eq_emod_of_nonneg (by omega)]; omega
        have ha : c / 16 < 16 := by omega
        have hb16 : c % 16 < 16 := by omega
        generalize c / 16 = a at *
        generalize c % 16 = b at *
        have x1 := hex_ext ⟨a, ha⟩
        have x2 := hex_ext ⟨b, hb16⟩
        simp only at x1 x2
        by_cases hcol : 0 < k ∧ k % 2 = 0
        · rw [if_pos hcol] at Hn
          obtain ⟨hk0, hk1⟩ := hcol
          go_wp2_with fail
          refine wp_region_same (Same.refl _) (by kernel_rfl) (by kernel_rfl) ?_
          repeat (first | go_big_quiet_step (fail) | quiet_step (fail))
          refine wpQuiet_nil ?_
          rintro w6 ⟨⟨w7, b7⟩, rfl⟩
          clear hb
          go_wp2_with fail
          refine wp_region_same (Same.refl _) (by kernel_rfl) (by kernel_rfl) ?_
          repeat (first | go_big_quiet_step (fail) | quiet_step (fail))
          refine wpQuiet_nil ?_
          rintro w8 ⟨⟨w9, b9⟩, rfl⟩
          have b79 := b7.trans b9
          have Hrel := Lib.hid (show QSRel w p (.string (⟨(sixth p.addr k).toArray⟩ ++ ⟨#[58]⟩ ++ (⟨#[hexD a]⟩ ++ ⟨#[hexD b]⟩))) (.int .i64 (k + 1 : Nat)) w8 from ⟨k + 1, rfl, by omega, by rw [Hn.out, six_app1], HAr.out.mono b79, HSr.out.trans b79⟩)
          go_wp2
          go_roundw
          case rel => exact Hrel.out
          case measure => first | (simp [intOf]; done) | (simp [intOf]; omega)
        · rw [if_neg hcol, List.nil_append] at Hn
          by_cases hk0 : k = 0
          · subst hk0
            go_wp2_with fail
            refine wp_region_same (Same.refl _) (by kernel_rfl) (by kernel_rfl) ?_
            repeat (first | go_big_quiet_step (fail) | quiet_step (fail))
            refine wpQuiet_nil ?_
            rintro w6 ⟨⟨w7, b7⟩, rfl⟩
            clear hb
            go_wp2_with fail
            refine wp_region_same (Same.refl _) (by kernel_rfl) (by kernel_rfl) ?_
            repeat (first | go_big_quiet_step (fail) | quiet_step (fail))
            refine wpQuiet_nil ?_
            rintro w8 ⟨⟨w9, b9⟩, rfl⟩
            have b79 := b7.trans b9
            have Hrel := Lib.hid (show QSRel w p (.string (⟨(sixth p.addr 0).toArray⟩ ++ (⟨#[hexD a]⟩ ++ ⟨#[hexD b]⟩))) (.int .i64 (0 + 1 : Nat)) w8 from ⟨0 + 1, rfl, by omega, by rw [Hn.out, six_app2], HAr.out.mono b79, HSr.out.trans b79⟩)
            go_wp2
            go_roundw
            case rel => exact Hrel.out
            case measure => first | (simp [intOf]; done) | (simp [intOf]; omega)
          · have hk1 : k % 2 = 1 := by omega
            have hk3 : 0 < k := by omega
            go_wp2_with fail
            refine wp_region_same (Same.refl _) (by kernel_rfl) (by kernel_rfl) ?_
            repeat (first | go_big_quiet_step (fail) | quiet_step (fail))
            refine wpQuiet_nil ?_
            rintro w6 ⟨⟨w7, b7⟩, rfl⟩
            clear hb
            go_wp2_with fail
            refine wp_region_same (Same.refl _) (by kernel_rfl) (by kernel_rfl) ?_
            repeat (first | go_big_quiet_step (fail) | quiet_step (fail))
            refine wpQuiet_nil ?_
            rintro w8 ⟨⟨w9, b9⟩, rfl⟩
            have b79 := b7.trans b9
            have Hrel := Lib.hid (show QSRel w p (.string (⟨(sixth p.addr k).toArray⟩ ++ (⟨#[hexD a]⟩ ++ ⟨#[hexD b]⟩))) (.int .i64 (k + 1 : Nat)) w8 from ⟨k + 1, rfl, by omega, by rw [Hn.out, six_app2], HAr.out.mono b79, HSr.out.trans b79⟩)
            go_wp2
            go_roundw
            case rel => exact Hrel.out
            case measure => first | (simp [intOf]; done) | (simp [intOf]; omega)
      · obtain rfl : k = 16 := by omega
        have h17 := HAr.out.bits
        rw [HK.out] at h17
        go_wp2_with fail
        refine (HD.out _).mono ?_
        rintro e w3 ⟨rfl, b3⟩
        go_wp2
        go_ret
        refine ⟨?_, HSr.out.trans b3⟩
        rw [HX.out, show addrL true p.addr ++ 47 :: dec m = (sixth p.addr 16 ++ [47]) ++ dec m by simp [addrL], ← app_list, ← app_list]
        rfl
end Go.Proofs.YtabniphnmlbkfaaDoor
