/- Proved: what Make of the document answers. Condition: numbers fit; the text's length fits. -/
import Derived.Test.YtabniphnmlbkfaaDoorB
namespace Go.Proofs.YtabniphnmlbkfaaDoor
open Go.RowKit

set_option maxRecDepth 100000 in
theorem qmake_no (s : Bool) (l : List UInt8) (n : Int) (hl : l.length ≤ 1000000000000) (hm : makeP s l n = none) : Gives Tryd.prog 27 #[.bool s, .string ⟨l.toArray⟩, .int .i64 n] (.tuple #[.agg (pc zeroP), .bool false]) := by
  intro w
  obtain ⟨hz, hi⟩ := zero_of_info info24
  have HM := Lib.hid (most_at s)
  have hle := sizeN_le s
  obtain ⟨hA, hS⟩ := one_at w zeroP zeroP_len
  obtain ⟨n2, hn2⟩ : ∃ n, n = 18 := ⟨18, rfl⟩
  have hsz2 : ∀ w, (Go.sizeOf 24).run Tryd.prog w = .ok n2 w := fun w => by rw [hn2]; exact Tryd.sizeOf24 w
  have hzs : (pc zeroP).size = n2 := by rw [hn2]; exact pc_size _ rfl
  have HA := Lib.hid hA
  have HS := Lib.hid hS
  have HN2 := Lib.hid hn2
  clear hA hS hn2 hi
  by_cases h1 : l.length = sizeN s
  · have h2 : fitsB s n = false := by
      rcases h : fitsB s n
      · rfl
      · rw [makeP, if_pos ⟨h1, h⟩] at hm
        cases hm
    by_cases h0 : n < 0
    · go_enter Tryd.func27, Tryd.ntmps27
      go_wp2_with fail
      refine (HM.out _).mono ?_
      rintro e w1 ⟨rfl, b1⟩
      have hA2 := HA.out.mono b1
      have hst := hA2.store zeroP rfl
      have hld := (hA2.put zeroP rfl).whole HN2.out
      go_wp2
      refine bodyPost_ret (v := .tuple #[.agg (pc zeroP), .bool false]) ?_ rfl ⟨rfl, (HS.out.trans b1).setRow _ _ (Nat.le_refl _)⟩
      simp [results, Tryd.results27, go_sem, hsz2, hld]
    · have h3 : 8 * (sizeN s : Int) < n := by simp [fitsB] at h2; omega
      go_enter Tryd.func27, Tryd.ntmps27
      go_wp2_with fail
      refine (HM.out _).mono ?_
      rintro e w1 ⟨rfl, b1⟩
      go_wp2_with fail
      refine (HM.out _).mono ?_
      rintro e w2 ⟨rfl, b2⟩
      have hA2 := HA.out.mono (b1.trans b2)
      have hst := hA2.store zeroP rfl
      have hld := (hA2.put zeroP rfl).whole HN2.out
      go_wp2
      refine bodyPost_ret (v := .tuple #[.agg (pc zeroP), .bool false]) ?_ rfl ⟨rfl, ((HS.out.trans b1).trans b2).setRow _ _ (Nat.le_refl _)⟩
      simp [results, Tryd.results27, go_sem, hsz2, hld]
  · go_enter Tryd.func27, Tryd.ntmps27
    go_wp2_with fail
    refine (HM.out _).mono ?_
    rintro e w1 ⟨rfl, b1⟩
    have hA2 := HA.out.mono b1
    have hst := hA2.store zeroP rfl
    have hld := (hA2.put zeroP rfl).whole HN2.out
    go_wp2
    refine bodyPost_ret (v := .tuple #[.agg (pc zeroP), .bool false]) ?_ rfl ⟨rfl, (HS.out.trans b1).setRow _ _ (Nat.le_refl _)⟩
    simp [results, Tryd.results27, go_sem, hsz2, hld]

theorem At.setByte {w : World} {b : Nat} {p : Px} (h : At w b p) (i : Nat) (hi : i < 16) (c : Nat) (hc : c < 256) : At (w.setCell ⟨b, 1 + i, none⟩ (.int .u8 (c : Nat))) b ⟨p.six, p.addr.set i (UInt8.ofNat c), p.len⟩ := by
  refine ⟨?_, by simpa using h.len⟩
  rw [block_set h.block]
  have e : Value.int .u8 (c : Nat) = bv (UInt8.ofNat c) := by unfold bv; rw [UInt8.toNat_ofNat_of_lt' hc]
  have hl := h.len
  rw [e]
  have : (pc p).setIfInBounds (1 + i) (bv (UInt8.ofNat c)) = pc ⟨p.six, p.addr.set i (UInt8.ofNat c), p.len⟩ := by
    unfold pc
    apply Array.ext'
    simp only [Array.toList_setIfInBounds, List.map_set]
    rw [Nat.add_comm, List.set_cons_succ, List.set_append_left _ _ (by simp; omega)]
  rw [this]
theorem At.setOther {w : World} {b : Nat} {p : Px} (h : At w b p) (g i : Nat) (v : Value) (hg : b ≠ g) : At (w.setCell ⟨g, i, none⟩ v) b p := ⟨setCell_old h.block g i v hg, h.len⟩
theorem add_byte (c k : Nat) (h : c + 2 ^ k < 256) : ((c : Int) + 2 ^ k) % 256 = ((c + 2 ^ k : Nat) : Int) := by
  have e : ((2 : Int) ^ k) = ((2 ^ k : Nat) : Int) := by simp
  rw [e]
  generalize (2 ^ k : Nat) = z at *
  omega
def MkRel (w : World) (b : Nat) (s : Bool) (l : List UInt8) (n : Nat) (i : Value) (wr : World) : Prop :=
  ∃ k : Nat, i = .int .i64 k ∧ k ≤ n ∧ At wr b ⟨s, cutL (padL l) k, n⟩ ∧ At wr w.heap.size zeroP ∧ Same w wr

theorem tmod_bit (c k : Nat) : ((c : Int) / 2 ^ k).tmod 2 = ((c / 2 ^ k % 2 : Nat) : Int) := by
  have h : ((c : Int) / 2 ^ k) = ((c / 2 ^ k : Nat) : Int) := by simp
  rw [h]
  generalize c / 2 ^ k = z at *
  rw [Int.tmod_eq_emod_of_nonneg (by omega)]
  omega
theorem pad_bit (l : List UInt8) (i : Nat) (h : i / 8 < l.length) (h2 : l.length ≤ 16) : bitOf (padL l) i = (l[i / 8]'h).toNat / 2 ^ (7 - i % 8) % 2 := by
  unfold bitOf
  rw [padL_get l (i / 8) (by omega), if_pos h]
  simp [h]

set_option maxRecDepth 100000 in
theorem qmake_ok (s : Bool) (l : List UInt8) (n : Int) (p : Px) (hm : makeP s l n = some p) : Gives Tryd.prog 27 #[.bool s, .string ⟨l.toArray⟩, .int .i64 n] (.tuple #[.agg (pc p), .bool true]) := by
  intro w
  obtain ⟨hz, hi⟩ := zero_of_info info24
  have HM := Lib.hid (most_at s)
  have hle := sizeN_le s
  obtain ⟨h1, h2, hp⟩ := makeP_some hm
  have hp16 : p.addr.length = 16 := by rw [hp]; exact cutL_len _ _
  obtain ⟨m, rfl⟩ : ∃ k : Nat, n = k := ⟨n.toNat, by simp [fitsB] at h2; omega⟩
  have hk : m ≤ 8 * sizeN s := by simp [fitsB] at h2; omega
  obtain ⟨hA, hS⟩ := one_at w zeroP zeroP_len
  obtain ⟨n2, hn2⟩ : ∃ n, n = 18 := ⟨18, rfl⟩
  have hsz2 : ∀ w, (Go.sizeOf 24).run Tryd.prog w = .ok n2 w := fun w => by rw [hn2]; exact Tryd.sizeOf24 w
  obtain ⟨n1, hn1⟩ : ∃ n, n = 16 := ⟨16, rfl⟩
  have hsz1 : ∀ w, (Go.sizeOf 22).run Tryd.prog w = .ok n1 w := fun w => by rw [hn1]; exact Tryd.sizeOf22 w
  have hn0 : ¬ n1 = 0 := by omega
  have hzs : (pc p).size = n2 := by rw [hn2]; exact pc_size _ hp16
  have HA := Lib.hid hA
  have HS := Lib.hid hS
  have HN2 := Lib.hid hn2
  have HN1 := Lib.hid hn1
  have HP := Lib.hid hp
  clear hA hS hn2 hn1 hi hp
  go_enter Tryd.func27, Tryd.ntmps27
  go_wp2_with fail
  refine (HM.out _).mono ?_
  rintro e w1 ⟨rfl, b1⟩
  go_wp2_with fail
  refine (HM.out _).mono ?_
  rintro e w2 ⟨rfl, b2⟩
  have b12 := b1.trans b2
  have z1 : (pc zeroP).size = 18 := pc_size _ rfl
  have f1 := set_six zeroP s
  have f3 := set_len ⟨s, zeroP.addr, zeroP.len⟩ rfl m
  have z2 : (pc ⟨s, zeroP.addr, zeroP.len⟩).size = 18 := pc_size _ rfl
  have hne : pc zeroP ≠ #[] := by intro h; rw [h] at z1; simp at z1
  simp only at f3
  have hA2 : At (w2.alloc (.cells (pc zeroP) 24)) w2.heap.size zeroP := (one_at w2 zeroP rfl).1
  have z4 : (pc ⟨s, zeroP.addr, m⟩).size = n2 := by rw [HN2.out]; exact pc_size _ rfl
  have hst := hA2.store ⟨s, zeroP.addr, m⟩ rfl
  have hlt : w.heap.size ≠ w2.heap.size := by
    have := b12.size
    have h : (w.alloc (.cells (pc zeroP) 24)).heap.size = w.heap.size + 1 := by simp
    omega
  have hge : w.heap.size ≤ w2.heap.size := (HS.out.trans b12).size
  have HA3 := Lib.hid (show At ((w2.alloc (.cells (pc zeroP) 24)).setRow w2.heap.size (pc ⟨s, zeroP.addr, m⟩)) w2.heap.size ⟨s, cutL (padL l) 0, m⟩ by rw [cutL_zero]; exact hA2.put ⟨s, zeroP.addr, m⟩ rfl)
  have HB3 := Lib.hid (show At ((w2.alloc (.cells (pc zeroP) 24)).setRow w2.heap.size (pc ⟨s, zeroP.addr, m⟩)) w.heap.size zeroP from ⟨setRow_old (HA.out.mono (b12.alloc _)).block _ _ hlt, rfl⟩)
  have HS3 := Lib.hid (((HS.out.trans b12).alloc (.cells (pc zeroP) 24)).setRow w2.heap.size (pc ⟨s, zeroP.addr, m⟩) hge)
  clear b1 b2 b12 HA HS
  go_wp2_with fail
  generalize (w2.alloc (.cells (pc zeroP) 24)).setRow w2.heap.size (pc ⟨s, zeroP.addr, m⟩) = w3 at *
  generalize w2.heap.size = b8 at *
  clear hst hA2 f1 f3 z4 z1 z2 hne hz
  go_loopw [9] (fun i wr => MkRel w b8 s l m i wr) (fun i _ => 128 - (intOf i).toNat)
  case atStart => exact ⟨0, rfl, by omega, HA3.out, HB3.out, HS3.out⟩
  case round =>
    obtain ⟨k, rfl, hkm, hA, hB, hsame⟩ := hrel
    have HAr := Lib.hid hA
    have HBr := Lib.hid hB
    have HSr := Lib.hid hsame
    clear hA hB hsame HA3 HB3 HS3
    by_cases hk2 : k < m
    · have hidx : k / 8 < l.length := by omega
      have hi2 : (k : Int) / 8 < (sizeN s : Int) := by omega
      have hb := pad_bit l k hidx (by omega)
      have hge2 : ∀ h, (({ data := l.toArray } : ByteArray)[k / 8]'h) = l[k / 8] := fun _ => rfl
      have hc : (l[k / 8]'hidx).toNat < 256 := UInt8.toNat_lt _
      have Hb := Lib.hid hb
      clear hb
      by_cases h8 : (l[k / 8]'hidx).toNat / 2 ^ (7 - k % 8) % 2 = 1
      · obtain ⟨q1, q2⟩ := cutL_more_next (padL l) k (by omega) (by rw [Hb.out, h8])
        have Hq := Lib.hid q2
        have hcell := HAr.out.byte (k / 8) (by omega)
        have hfree : wr.frozen? ⟨b8, 1 + k / 8, none⟩ = false := by simp [World.frozen?, HAr.out.block]
        simp only at hcell
        clear q2
        generalize ((cutL (padL l) k).getD (k / 8) 0).toNat = c at *
        have h8b : ((((l[k / 8]'hidx).toNat : Int) / 2 ^ (7 - k % 8)).tmod 2 == 1) = true := by
          have : ((((l[k / 8]'hidx).toNat : Int) / 2 ^ (7 - k % 8)).tmod 2) = (((l[k / 8]'hidx).toNat / 2 ^ (7 - k % 8) % 2 : Nat) : Int) := tmod_bit _ _
          rw [this, h8]; rfl
        go_wp2
        go_region
        rw [show ((c : Int) + 2 ^ (7 - k % 8)) % 256 = ((c + 2 ^ (7 - k % 8) : Nat) : Int) from add_byte c (7 - k % 8) q1]
        have GA := Lib.hid (HAr.out.setByte (k / 8) (by omega) _ q1)
        have GB := Lib.hid (HBr.out.setOther b8 (1 + k / 8) (.int .u8 (c + 2 ^ (7 - k % 8) : Nat)) hlt)
        have GS := Lib.hid (HSr.out.setCell b8 (1 + k / 8) (.int .u8 (c + 2 ^ (7 - k % 8) : Nat)) hge)
        simp only at GA
        rw [← Hq.out] at GA
        clear hcell hfree
        generalize wr.setCell ⟨b8, 1 + k / 8, none⟩ (.int .u8 (c + 2 ^ (7 - k % 8) : Nat)) = w9 at *
        go_wp2
        go_roundw
        case rel => exact ⟨k + 1, by go_num, by omega, GA.out.mono (Same.refl w9).drew, GB.out.mono (Same.refl w9).drew, GS.out.drew⟩
        case measure => simp [intOf]; omega
      · have h8b : ((((l[k / 8]'hidx).toNat : Int) / 2 ^ (7 - k % 8)).tmod 2 == 1) = false := by
          have : ((((l[k / 8]'hidx).toNat : Int) / 2 ^ (7 - k % 8)).tmod 2) = (((l[k / 8]'hidx).toNat / 2 ^ (7 - k % 8) % 2 : Nat) : Int) := tmod_bit _ _
          have h9 : (l[k / 8]'hidx).toNat / 2 ^ (7 - k % 8) % 2 = 0 := by omega
          rw [this, h9]; rfl
        have Hq := Lib.hid (cutL_same_next (padL l) k (by omega) (by rw [Hb.out]; omega))
        go_wp2
        go_roundw
        case rel => exact ⟨k + 1, by go_num, by omega, by rw [Hq.out]; exact HAr.out, HBr.out, HSr.out⟩
        case measure => simp [intOf]; omega
    · obtain rfl : k = m := by omega
      have hpe : (⟨s, cutL (padL l) k, (k : Int)⟩ : Px) = p := by rw [HP.out]; rfl
      rw [hpe] at HAr
      have hld := HAr.out.whole HN2.out
      have hst := HBr.out.store p hp16
      have hl2 := (HBr.out.put p hp16).whole HN2.out
      go_wp2
      refine bodyPost_ret (v := .tuple #[.agg (pc p), .bool true]) ?_ rfl ⟨rfl, HSr.out.setRow _ _ (Nat.le_refl _)⟩
      simp [results, Tryd.results27, go_sem, hsz2, hl2]
end Go.Proofs.YtabniphnmlbkfaaDoor
