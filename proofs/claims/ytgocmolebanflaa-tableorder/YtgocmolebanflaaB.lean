/- Proved: what Make of prefix answers. Condition: numbers fit; the text's length fits. -/
import Derived.Test.YtgocmolebanflaaM
import Derived.Lib.BufferWrite
namespace Go.Proofs.Ytgocmolebanflaa
open Go.RowKit

def zl : List UInt8 := List.replicate 16 0
def zeroP : Px := ⟨false, zl, 0⟩
theorem info24 : (Try.prog.info? 25).map (fun i => (i.zero, i.size)) = some (some (.agg (pc zeroP)), 18) := by kernel_rfl
theorem info22z : (Try.prog.info? 23).map (fun i => (i.zero, i.size)) = some (some (.agg (ac zl)), 16) := by kernel_rfl
def makeP (s : Bool) (l : List UInt8) (n : Int) : Option Px := if l.length = sizeN s ∧ fitsB s n then some ⟨s, cutL (padL l) n.toNat, n⟩ else none

theorem list16 (l : List UInt8) (h : l.length = 16) : ∃ c0 c1 c2 c3 c4 c5 c6 c7 c8 c9 c10 c11 c12 c13 c14 c15, l = [c0, c1, c2, c3, c4, c5, c6, c7, c8, c9, c10, c11, c12, c13, c14, c15] := by
  match l, h with
  | [c0, c1, c2, c3, c4, c5, c6, c7, c8, c9, c10, c11, c12, c13, c14, c15], _ => exact ⟨c0, c1, c2, c3, c4, c5, c6, c7, c8, c9, c10, c11, c12, c13, c14, c15, rfl⟩
theorem set_seg (L xs : List Value) (i : Nat) (x : Value) (h : i < L.length) : (L.set i x).take (i + 1) ++ xs ++ (L.set i x).drop (i + 1 + xs.length) = L.take i ++ (x :: xs) ++ L.drop (i + (x :: xs).length) := by
  rw [List.drop_set_of_lt (by omega), List.take_add_one, List.take_set_of_le (Nat.le_refl i)]
  simp [h, Nat.add_assoc, Nat.add_comm 1]
theorem fold_sets (o : Nat) : ∀ (xs : List Value) (k : Nat) (A : Array Value), o + k + xs.length ≤ A.size → (xs.zipIdx k).foldl (fun cs x => cs.setIfInBounds (o + x.snd) x.fst) A = (A.toList.take (o + k) ++ xs ++ A.toList.drop (o + k + xs.length)).toArray
  | [], k, A, _ => by simp
  | x :: xs, k, A, h => by
    have h2 : o + k < A.size := by simp at h; omega
    rw [List.zipIdx_cons, List.foldl_cons, fold_sets o xs (k + 1) _ (by simp at h ⊢; omega)]
    apply Array.ext'
    simp only [Array.toList_setIfInBounds]
    exact set_seg A.toList xs (o + k) x (by simpa using h2)
theorem fold_addr (p : Px) (l : List UInt8) (h : p.addr.length = 16) (hl : l.length = 16) : Array.foldl (fun cs x => cs.setIfInBounds (1 + x.snd) x.fst) (pc p) (ac l).zipIdx 0 (ac l).size = pc ⟨p.six, l, p.len⟩ := by
  rw [show (ac l).size = (ac l).zipIdx.size by simp, ← Array.foldl_toList, Array.toList_zipIdx]
  rw [fold_sets 1 (ac l).toList 0 (pc p) (by rw [pc_size p h]; simp [ac, hl])]
  unfold pc ac
  refine congrArg _ ?_
  simp only
  simp [hl, h]
theorem set_six (p : Px) (s : Bool) : (pc p).setIfInBounds 0 (.bool s) = pc ⟨s, p.addr, p.len⟩ := by
  simp [pc]
theorem set_len (p : Px) (h : p.addr.length = 16) (n : Int) : (pc p).setIfInBounds 17 (.int .i64 n) = pc ⟨p.six, p.addr, n⟩ := by
  obtain ⟨s, a, m⟩ := p
  obtain ⟨c0, c1, c2, c3, c4, c5, c6, c7, c8, c9, c10, c11, c12, c13, c14, c15, rfl⟩ := list16 a h
  rfl
theorem pc_one (p : Px) : ∀ v ∈ (pc p).toList, v.oneCell' = true := by
  intro v hv
  simp only [pc, List.mem_cons, List.mem_append, List.mem_map] at hv
  rcases hv with rfl | ⟨c, _, rfl⟩ | hv
  · rfl
  · rfl
  · simp at hv
    rw [hv]
    rfl
theorem zeroP_len : zeroP.addr.length = 16 := rfl
/-- A prefix is stored over another. -/
theorem At.store {w : World} {b : Nat} {z : Px} (h : At w b z) (p : Px) (hp : p.addr.length = 16) : (storeCells ⟨b, 0, none⟩ (pc p).toList).run Try.prog w = .ok () (w.setRow b (pc p)) := by
  have hsc := run_storeCells_from (P := Try.prog) b 25 (pc p).toList 0 (pc z) w h.block (by rw [pc_size z h.len]; simp [pc_size p hp]) (pc_one p)
  rw [List.take_zero, List.nil_append, Array.toArray_toList] at hsc
  exact hsc
theorem At.put {w : World} {b : Nat} {z : Px} (h : At w b z) (p : Px) (hp : p.addr.length = 16) : At (w.setRow b (pc p)) b p := ⟨block_row h.block _, hp⟩
theorem makeP_some {s : Bool} {l : List UInt8} {n : Int} {p : Px} (hm : makeP s l n = some p) : l.length = sizeN s ∧ fitsB s n = true ∧ p = ⟨s, cutL (padL l) n.toNat, n⟩ := by
  by_cases h : l.length = sizeN s ∧ fitsB s n = true
  · rw [makeP, if_pos h] at hm
    exact ⟨h.1, h.2, (Option.some.inj hm).symm⟩
  · rw [makeP, if_neg h] at hm
    cases hm
theorem copy_text (w : World) (g : Nat) (l : List UInt8) (hl : l.length ≤ 16) (hg : w.heap[g]? = some (.cells (ac zl) 23 (0, 0))) :
    (Builtin.copy_ #[84, 9] 3 #[.slice (some ⟨g, 0, none⟩) 16 16, .string ⟨l.toArray⟩]).run Try.prog w = .ok (.int .i64 l.length) (w.setRow g (ac (padL l))) := by
  have hs : (⟨l.toArray⟩ : ByteArray).size = l.length := by simp [ByteArray.size]
  have h := Lib.run_copy_row_string (P := Try.prog) w 84 9 3 5 g 0 16 16 ⟨l.toArray⟩ (ac (List.replicate 16 0)) 23 Try.underlying84 info5 hg (by omega) (by rw [ac_size, hs]; simp; omega)
  rw [h, hs]
  have e : ((ac (List.replicate 16 0)).toList.take 0 ++ Lib.byteCells (⟨l.toArray⟩ : ByteArray).data.toList ++ (ac (List.replicate 16 0)).toList.drop (0 + l.length)).toArray = ac (padL l) := by
    unfold ac padL
    refine congrArg _ ?_
    have e2 : List.map bv (List.take 16 (l ++ List.replicate 16 0)) = List.take 16 (List.map bv l ++ List.map bv (List.replicate 16 0)) := by rw [List.map_take, List.map_append]
    have e3 : Lib.byteCells (⟨l.toArray⟩ : ByteArray).data.toList = List.map bv l := rfl
    rw [e2, e3]
    simp only
    have hlen : (List.map bv l).length = l.length := by simp
    generalize List.map bv l = M at *
    rw [List.map_replicate, List.take_zero, List.nil_append, Nat.zero_add, List.drop_replicate, List.take_append, List.take_of_length_le (by omega), hlen, List.take_replicate, Nat.min_eq_left (by omega)]
  rw [e]
  rfl

theorem At.setByte {w : World} {b : Nat} {p : Px} (h : At w b p) (i : Nat) (hi : i < 16) (c : Nat) (hc : c < 256) : At (w.setCell ⟨b, 1 + i, none⟩ (.int .u8 (c : Nat))) b ⟨p.six, p.addr.set i (UInt8.ofNat c), p.len⟩ := by
  refine ⟨?_, by simpa using h.len⟩
  rw [block_set h.block]
  have e : Value.int .u8 (c : Nat) = bv (UInt8.ofNat c) := by unfold bv; rw [UInt8.toNat_ofNat_of_lt' hc]
  have hl := h.len
  rw [e]
  have : (pc p).setIfInBounds (1 + i) (bv (UInt8.ofNat c)) = pc ⟨p.six, p.addr.set i (UInt8.ofNat c), p.len⟩ := by
    unfold pc
    apply Array.ext'
    simp only [Array.toList_setIfInBounds, List.map_set]
    rw [Nat.add_comm, List.set_cons_succ, List.set_append_left _ _ (by simp; omega)]
  rw [this]
theorem At.setOther {w : World} {b : Nat} {p : Px} (h : At w b p) (g i : Nat) (v : Value) (hg : b ≠ g) : At (w.setCell ⟨g, i, none⟩ v) b p := ⟨setCell_old h.block g i v hg, h.len⟩
theorem add_byte (c k : Nat) (h : c + 2 ^ k < 256) : ((c : Int) + 2 ^ k) % 256 = ((c + 2 ^ k : Nat) : Int) := by
  have e : ((2 : Int) ^ k) = ((2 ^ k : Nat) : Int) := by simp
  rw [e]
  generalize (2 ^ k : Nat) = z at *
  omega
def MkRel (w : World) (b : Nat) (s : Bool) (l : List UInt8) (n : Nat) (i : Value) (wr : World) : Prop :=
  ∃ k : Nat, i = .int .i64 k ∧ k ≤ n ∧ At wr b ⟨s, cutL (padL l) k, n⟩ ∧ At wr w.heap.size zeroP ∧ Same w wr

theorem tmod_bit (c k : Nat) : ((c : Int) / 2 ^ k).tmod 2 = ((c / 2 ^ k % 2 : Nat) : Int) := by
  have h : ((c : Int) / 2 ^ k) = ((c / 2 ^ k : Nat) : Int) := by simp
  rw [h]
  generalize c / 2 ^ k = z at *
  rw [Int.tmod_eq_emod_of_nonneg (by omega)]
  omega
theorem pad_bit (l : List UInt8) (i : Nat) (h : i / 8 < l.length) (h2 : l.length ≤ 16) : bitOf (padL l) i = (l[i / 8]'h).toNat / 2 ^ (7 - i % 8) % 2 := by
  unfold bitOf
  rw [padL_get l (i / 8) (by omega), if_pos h]
  simp [h]

set_option maxRecDepth 100000 in
theorem qmake_ok (s : Bool) (l : List UInt8) (n : Int) (p : Px) (hm : makeP s l n = some p) : Gives Try.prog 47 #[.bool s, .string ⟨l.toArray⟩, .int .i64 n] (.tuple #[.agg (pc p), .bool true]) := by
  intro w
  obtain ⟨hz, hi⟩ := zero_of_info info24
  have HM := Lib.hid (most_at s)
  have hle := sizeN_le s
  obtain ⟨h1, h2, hp⟩ := makeP_some hm
  have hp16 : p.addr.length = 16 := by rw [hp]; exact cutL_len _ _
  obtain ⟨m, rfl⟩ : ∃ k : Nat, n = k := ⟨n.toNat, by simp [fitsB] at h2; omega⟩
  have hk : m ≤ 8 * sizeN s := by simp [fitsB] at h2; omega
  obtain ⟨hA, hS⟩ := one_at w zeroP zeroP_len
  obtain ⟨n2, hn2⟩ : ∃ n, n = 18 := ⟨18, rfl⟩
  have hsz2 : ∀ w, (Go.sizeOf 25).run Try.prog w = .ok n2 w := fun w => by rw [hn2]; exact Try.sizeOf25 w
  obtain ⟨n1, hn1⟩ : ∃ n, n = 16 := ⟨16, rfl⟩
  have hsz1 : ∀ w, (Go.sizeOf 23).run Try.prog w = .ok n1 w := fun w => by rw [hn1]; exact Try.sizeOf23 w
  have hn0 : ¬ n1 = 0 := by omega
  have hzs : (pc p).size = n2 := by rw [hn2]; exact pc_size _ hp16
  have HA := Lib.hid hA
  have HS := Lib.hid hS
  have HN2 := Lib.hid hn2
  have HN1 := Lib.hid hn1
  have HP := Lib.hid hp
  clear hA hS hn2 hn1 hi hp
  go_enter Try.func47, Try.ntmps47
  go_wp2_with fail
  refine (HM.out _).mono ?_
  rintro e w1 ⟨rfl, b1⟩
  go_wp2_with fail
  refine (HM.out _).mono ?_
  rintro e w2 ⟨rfl, b2⟩
  have b12 := b1.trans b2
  have z1 : (pc zeroP).size = 18 := pc_size _ rfl
  have f1 := set_six zeroP s
  have f3 := set_len ⟨s, zeroP.addr, zeroP.len⟩ rfl m
  have z2 : (pc ⟨s, zeroP.addr, zeroP.len⟩).size = 18 := pc_size _ rfl
  have hne : pc zeroP ≠ #[] := by intro h; rw [h] at z1; simp at z1
  simp only at f3
  have hA2 : At (w2.alloc (.cells (pc zeroP) 25)) w2.heap.size zeroP := (one_at w2 zeroP rfl).1
  have z4 : (pc ⟨s, zeroP.addr, m⟩).size = n2 := by rw [HN2.out]; exact pc_size _ rfl
  have hst := hA2.store ⟨s, zeroP.addr, m⟩ rfl
  have hlt : w.heap.size ≠ w2.heap.size := by
    have := b12.size
    have h : (w.alloc (.cells (pc zeroP) 25)).heap.size = w.heap.size + 1 := by simp
    omega
  have hge : w.heap.size ≤ w2.heap.size := (HS.out.trans b12).size
  have HA3 := Lib.hid (show At ((w2.alloc (.cells (pc zeroP) 25)).setRow w2.heap.size (pc ⟨s, zeroP.addr, m⟩)) w2.heap.size ⟨s, cutL (padL l) 0, m⟩ by rw [cutL_zero]; exact hA2.put ⟨s, zeroP.addr, m⟩ rfl)
  have HB3 := Lib.hid (show At ((w2.alloc (.cells (pc zeroP) 25)).setRow w2.heap.size (pc ⟨s, zeroP.addr, m⟩)) w.heap.size zeroP from ⟨setRow_old (HA.out.mono (b12.alloc _)).block _ _ hlt, rfl⟩)
  have HS3 := Lib.hid (((HS.out.trans b12).alloc (.cells (pc zeroP) 25)).setRow w2.heap.size (pc ⟨s, zeroP.addr, m⟩) hge)
  clear b1 b2 b12 HA HS
  go_wp2_with fail
  generalize (w2.alloc (.cells (pc zeroP) 25)).setRow w2.heap.size (pc ⟨s, zeroP.addr, m⟩) = w3 at *
  generalize w2.heap.size = b8 at *
  clear hst hA2 f1 f3 z4 z1 z2 hne hz
  go_loopw [9] (fun i wr => MkRel w b8 s l m i wr) (fun i _ => 128 - (intOf i).toNat)
  case atStart => exact ⟨0, rfl, by omega, HA3.out, HB3.out, HS3.out⟩
  case round =>
    obtain ⟨k, rfl, hkm, hA, hB, hsame⟩ := hrel
    have HAr := Lib.hid hA
    have HBr := Lib.hid hB
    have HSr := Lib.hid hsame
    clear hA hB hsame HA3 HB3 HS3
    by_cases hk2 : k < m
    · have hidx : k / 8 < l.length := by omega
      have hi2 : (k : Int) / 8 < (sizeN s : Int) := by omega
      have hb := pad_bit l k hidx (by omega)
      have hge2 : ∀ h, (({ data := l.toArray } : ByteArray)[k / 8]'h) = l[k / 8] := fun _ => rfl
      have hc : (l[k / 8]'hidx).toNat < 256 := UInt8.toNat_lt _
      have Hb := Lib.hid hb
      clear hb
      by_cases h8 : (l[k / 8]'hidx).toNat / 2 ^ (7 - k % 8) % 2 = 1
      · obtain ⟨q1, q2⟩ := cutL_more_next (padL l) k (by omega) (by rw [Hb.out, h8])
        have Hq := Lib.hid q2
        have hcell := HAr.out.byte (k / 8) (by omega)
        have hfree : wr.frozen? ⟨b8, 1 + k / 8, none⟩ = false := by simp [World.frozen?, HAr.out.block]
        simp only at hcell
        clear q2
        generalize ((cutL (padL l) k).getD (k / 8) 0).toNat = c at *
        have h8b : ((((l[k / 8]'hidx).toNat : Int) / 2 ^ (7 - k % 8)).tmod 2 == 1) = true := by
          have : ((((l[k / 8]'hidx).toNat : Int) / 2 ^ (7 - k % 8)).tmod 2) = (((l[k / 8]'hidx).toNat / 2 ^ (7 - k % 8) % 2 : Nat) : Int) := tmod_bit _ _
          rw [this, h8]; rfl
        go_wp2
        go_region
        rw [show ((c : Int) + 2 ^ (7 - k % 8)) % 256 = ((c + 2 ^ (7 - k % 8) : Nat) : Int) from add_byte c (7 - k % 8) q1]
        have GA := Lib.hid (HAr.out.setByte (k / 8) (by omega) _ q1)
        have GB := Lib.hid (HBr.out.setOther b8 (1 + k / 8) (.int .u8 (c + 2 ^ (7 - k % 8) : Nat)) hlt)
        have GS := Lib.hid (HSr.out.setCell b8 (1 + k / 8) (.int .u8 (c + 2 ^ (7 - k % 8) : Nat)) hge)
        simp only at GA
        rw [← Hq.out] at GA
        clear hcell hfree
        generalize wr.setCell ⟨b8, 1 + k / 8, none⟩ (.int .u8 (c + 2 ^ (7 - k % 8) : Nat)) = w9 at *
        go_wp2
        go_roundw
        case rel => exact ⟨k + 1, by go_num, by omega, GA.out.mono (Same.refl w9).drew, GB.out.mono (Same.refl w9).drew, GS.out.drew⟩
        case measure => simp [intOf]; omega
      · have h8b : ((((l[k / 8]'hidx).toNat : Int) / 2 ^ (7 - k % 8)).tmod 2 == 1) = false := by
          have : ((((l[k / 8]'hidx).toNat : Int) / 2 ^ (7 - k % 8)).tmod 2) = (((l[k / 8]'hidx).toNat / 2 ^ (7 - k % 8) % 2 : Nat) : Int) := tmod_bit _ _
          have h9 : (l[k / 8]'hidx).toNat / 2 ^ (7 - k % 8) % 2 = 0 := by omega
          rw [this, h9]; rfl
        have Hq := Lib.hid (cutL_same_next (padL l) k (by omega) (by rw [Hb.out]; omega))
        go_wp2
        go_roundw
        case rel => exact ⟨k + 1, by go_num, by omega, by rw [Hq.out]; exact HAr.out, HBr.out, HSr.out⟩
        case measure => simp [intOf]; omega
    · obtain rfl : k = m := by omega
      have hpe : (⟨s, cutL (padL l) k, (k : Int)⟩ : Px) = p := by rw [HP.out]; rfl
      rw [hpe] at HAr
      have hld := HAr.out.whole HN2.out
      have hst := HBr.out.store p hp16
      have hl2 := (HBr.out.put p hp16).whole HN2.out
      go_wp2
      refine bodyPost_ret (v := .tuple #[.agg (pc p), .bool true]) ?_ rfl ⟨rfl, HSr.out.setRow _ _ (Nat.le_refl _)⟩
      simp [results, Try.results47, go_sem, hsz2, hl2]
end Go.Proofs.Ytgocmolebanflaa
