/- Proved: what mix, eight and Bucket of digest and of the document answer. Condition: an address has sixteen bytes. -/
import Derived.Test.YtfikdeobejhblaaPg
namespace Go.Proofs.Ytfikdeobejhblaa
open Go.RowKit

set_option maxRecDepth 100000 in
theorem dmix (x : Int) : Gives Try.prog 51 #[.int .u64 x] (.int .u64 (mixZ x)) := by
  refine Gives.of_same fun w => ?_
  go_enter Try.func51, Try.ntmps51
  go_wp2
  go_ret
  exact ⟨rfl, rfl⟩
set_option maxRecDepth 100000 in
theorem qmix (x : Int) : Gives Try.prog 55 #[.int .u64 x] (.int .u64 (mixZ x)) := by
  refine Gives.of_same fun w => ?_
  go_enter Try.func55, Try.ntmps55
  go_wp2
  go_ret
  exact ⟨rfl, rfl⟩

theorem dbucket (p : Px) (hp : L16 p) : Gives Try.prog 17 #[.agg (pc p)] (.int .i64 (bkt p : Nat)) := by
  intro w
  obtain ⟨hA, hS⟩ := one_at w p hp
  have h0 := hA.six
  have h1 := hA.byte 0 (by omega)
  have hc := (p.addr.getD 0 0).toNat_lt
  have HS := Lib.hid hS
  clear hA hS
  unfold bkt
  simp only [Nat.add_zero] at h1
  generalize (p.addr.getD 0 0).toNat = c at *
  cases hs : p.six <;> rw [hs] at h0
  · go_enter Try.func17, Try.ntmps17
    go_wp2
    go_ret
    exact ⟨rfl, HS.out⟩
  · go_enter Try.func17, Try.ntmps17
    go_wp2
    go_ret
    exact ⟨rfl, HS.out⟩
theorem qbucket (p : Px) (hp : L16 p) : Gives Try.prog 18 #[.agg (pc p)] (.int .i64 (bkt p : Nat)) := by
  intro w
  obtain ⟨hA, hS⟩ := one_at w p hp
  have h0 := hA.six
  have h1 := hA.byte 0 (by omega)
  have hc := (p.addr.getD 0 0).toNat_lt
  have HS := Lib.hid hS
  clear hA hS
  unfold bkt
  simp only [Nat.add_zero] at h1
  generalize (p.addr.getD 0 0).toNat = c at *
  cases hs : p.six <;> rw [hs] at h0
  · go_enter Try.func18, Try.ntmps18
    go_wp2
    go_ret
    exact ⟨rfl, HS.out⟩
  · go_enter Try.func18, Try.ntmps18
    go_wp2
    go_ret
    exact ⟨rfl, HS.out⟩

theorem info8a : (Try.prog.info? 124).map (fun i => (i.zero, i.size)) = some (some (.agg (ac (List.replicate 8 0))), 8) := by kernel_rfl
def e8 (n : Int) (k : Nat) : List UInt8 := (eightL n).take k ++ List.replicate (8 - k) 0
theorem e8_len (n : Int) (k : Nat) (hk : k ≤ 8) : (e8 n k).length = 8 := by simp [e8, eightL_len]; omega
theorem e8_set (n : Int) (k : Nat) (hk : k < 8) : (e8 n k).set k (byteE n (56 - 8 * k)) = e8 n (k + 1) := by
  unfold e8
  have hl : ((eightL n).take k).length = k := by simp [eightL_len]; omega
  rw [List.set_append_right _ _ (by omega), hl, Nat.sub_self, show 8 - k = (8 - (k + 1)) + 1 by omega, List.replicate_succ, List.set_cons_zero, List.take_add_one, eightL_get n k hk]
  simp
theorem e8_full (n : Int) : e8 n 8 = eightL n := by
  unfold e8
  rw [List.take_of_length_le (by rw [eightL_len]; omega)]
  simp
theorem byteE_val (n : Int) (k : Nat) : n / 2 ^ k % 256 = (((n / 2 ^ k % 256).toNat : Nat) : Int) ∧ (n / 2 ^ k % 256).toNat < 256 := by
  generalize n / 2 ^ k = z
  omega
theorem all8 (b : Nat) (w : World) : (Instr.sliceAt 124 (.pointer (some ⟨b, 0, none⟩)) none none none).run Try.prog w = .ok (.slice (some ⟨b, 0, none⟩) 8 8) w := by
  have hn : Try.prog.arrayLen 124 = 8 := by kernel_rfl
  have he : Try.prog.elem 124 = 5 := by kernel_rfl
  have := run_sliceAt_array_all (P := Try.prog) w 124 ⟨b, 0, none⟩ (by kernel_rfl)
  rw [this, he, Try.sizeOf5 w]
  simp [slicedAt, hn, Addr.add]
def E8Rel (w : World) (n : Int) (i : Value) (wr : World) : Prop := ∃ k : Nat, i = .int .i64 k ∧ k ≤ 8 ∧ wr.heap[w.heap.size]? = some (.cells (ac (e8 n k)) 124 (0, 0)) ∧ Same w wr
set_option maxRecDepth 100000 in
theorem deight (n : Int) : Gives Try.prog 50 #[.int .u64 n] (.string ⟨(eightL n).toArray⟩) := by
  intro w
  obtain ⟨hz, hi⟩ := zero_of_info info8a
  have hS : Same w (w.alloc (.cells (ac (e8 n 0)) 124)) := (Same.refl w).alloc _
  have HS := Lib.hid hS
  have HB := Lib.hid (show (w.alloc (.cells (ac (e8 n 0)) 124)).heap[w.heap.size]? = some (.cells (ac (e8 n 0)) 124 (0, 0)) from heap_alloc_last w _)
  clear hS
  have e0 : List.replicate 8 0 = e8 n 0 := by simp [e8]
  rw [e0] at hz
  go_enter Try.func50, Try.ntmps50
  go_wp2
  go_loopw [5] (fun i wr => E8Rel w n i wr) (fun i _ => 8 - (intOf i).toNat)
  case atStart => exact ⟨0, rfl, by omega, HB.out, HS.out⟩
  case round =>
    obtain ⟨k, rfl, hk, hb, hs⟩ := hrel
    have HBr := Lib.hid hb
    have HSr := Lib.hid hs
    clear hb hs
    by_cases hlt : k < 8
    · have hfree : wr.frozen? ⟨w.heap.size, k, none⟩ = false := by simp [World.frozen?, HBr.out]
      have hcell : ∃ v, wr.cell? ⟨w.heap.size, k, none⟩ = some v := ⟨_, cell_obj HBr.out (ac_get _ k (by rw [e8_len n k hk]; exact hlt))⟩
      obtain ⟨v, hcell⟩ := hcell
      obtain ⟨b1, b2⟩ := byteE_val n (56 - 8 * k)
      have HR := Lib.hid (show E8Rel w n (.int .i64 (k + 1 : Nat)) (wr.setCell ⟨w.heap.size, k, none⟩ (.int .u8 (n / 2 ^ (56 - 8 * k) % 256))) from ⟨k + 1, rfl, hlt, by
        rw [b1, block_set HBr.out, ac_set _ _ _ b2]
        rw [show (e8 n k).set k (UInt8.ofNat (n / 2 ^ (56 - 8 * k) % 256).toNat) = e8 n (k + 1) from e8_set n k hlt], HSr.out.setCell _ _ _ (Nat.le_refl _)⟩)
      clear b1 b2
      go_wp2
      go_roundw
      case rel => exact HR.out
      case measure => simp [intOf]; omega
    · obtain rfl : k = 8 := by omega
      rw [e8_full] at HBr
      have hcv := conv_bytes (eightL n) HBr.out 8 (by rw [eightL_len]; omega) 8
      rw [List.take_of_length_le (by rw [eightL_len]; omega)] at hcv
      have hsl := all8 w.heap.size wr
      go_wp2
      go_ret
      exact ⟨rfl, HSr.out⟩

/-! ### Bytes that grow -/
def bl (c : UInt8) : List Value := [bv c]
theorem elB : El 87 5 1 1 bl where
  under := Try.underlying87
  info := by
    obtain ⟨i0, h1, h2, h3, h4⟩ := info_parts info5b
    exact ⟨i0, _, h1, h2, h3, h4, rfl⟩
  len := fun _ => rfl
  one := fun x v hv => by
    simp only [bl, List.mem_singleton] at hv
    rw [hv]
    rfl
  pos := by decide
theorem flat_bl (l : List UInt8) : flat bl l = l.map bv := by
  induction l with
  | nil => rfl
  | cons c l ih => rw [flat_cons, ih]; rfl
theorem Own.text {B : Nat} {w : World} {v : Value} {l : List UInt8} (h : Own 5 1 bl B w v l) : (convert 87 9 v).run Try.prog w = .ok (.string ⟨l.toArray⟩) w := by
  unfold Own at h
  rw [flat_bl] at h
  exact conv_own l h
theorem Cells.byte (w : World) (c : UInt8) : Cells bl (w.alloc (.cells #[bv c] 5)) (.slice (some ⟨w.heap.size, 0, none⟩) 1 1) [c] := by
  refine .inr ⟨w.heap.size, 0, 1, rfl, by simp, by unfold maxLen; omega, by simp, fun j u hj => ?_⟩
  have : j = 0 := by
    have := (List.getElem?_eq_some_iff.1 hj).1
    simp [flat, bl] at this
    exact this
  subst this
  rw [Nat.add_zero, cell_of_row _ _ _ _ _ _ (heap_alloc_last w _)]
  exact hj
theorem byteE_num (n : Int) (k : Nat) : n / 2 ^ k % 256 = ((byteE n k).toNat : Nat) := by
  unfold byteE
  rw [UInt8.toNat_ofNat_of_lt' (byteE_val n k).2, ← (byteE_val n k).1]

def Q8Rel (w : World) (n : Int) (lv i : Value) (wr : World) : Prop := ∃ k : Nat, i = .int .i64 (7 - (k : Int)) ∧ k ≤ 8 ∧ Own 5 1 bl w.heap.size wr lv ((eightL n).take k) ∧ Keep w wr
set_option maxRecDepth 100000 in
theorem qeight (n : Int) : GivesK Try.prog 54 #[.int .u64 n] (.string ⟨(eightL n).toArray⟩) := by
  intro w
  have HS := Lib.hid (show Keep w (w.alloc (.cells #[] 5)) from (Keep.refl w).alloc _)
  have HO := Lib.hid (Own.made (t := 5) (k := 1) (enc := bl) w.heap.size w (Nat.le_refl _))
  go_enter Try.func54, Try.ntmps54
  go_wp2
  go_loopw [3, 4] (fun lv i wr => Q8Rel w n lv i wr) (fun _ i _ => ((intOf i) + 1).toNat)
  case atStart => exact ⟨0, rfl, by omega, HO.out, HS.out⟩
  case round =>
    obtain ⟨k, rfl, hk, hown, hkp⟩ := hrel
    have HKP := Lib.hid hkp
    have HOW := Lib.hid hown
    clear hkp hown
    by_cases hlt : k < 8
    · have h0 : (7 : Int) - k ≥ 0 := by omega
      have HT := Lib.hid (eightL_get n k hlt)
      have he := byteE_num n (56 - 8 * k)
      generalize byteE n (56 - 8 * k) = c at *
      have hw : Keep w (wr.alloc (.cells #[.int .u8 (c.toNat : Nat)] 5)) := HKP.out.alloc _
      have hbs := hw.size
      have HC : Hid (Cells bl (wr.alloc (.cells #[.int .u8 (c.toNat : Nat)] 5)) (.slice (some ⟨wr.heap.size, 0, none⟩) 1 1) [c]) := Lib.hid (Cells.byte wr c)
      have HO2 := Lib.hid (HOW.out.keep ((Keep.refl wr).alloc (.cells #[.int .u8 (c.toNat : Nat)] 5)))
      have HW := Lib.hid hw
      have hex : 8 * (7 - (k : Int)) = ((56 - 8 * k : Nat) : Int) := by omega
      clear hw
      go_wp2_with (at_builtin; refine wp_app elB rfl _ _ rfl w.heap.size _ _ _ [c] rfl rfl HO2.out HC.out ?q1 ?q2 ?q3 ?_)
      case q1 => simp [eightL_len]; omega
      case q2 => simp [eightL_len]; omega
      case q3 => simpa using hbs
      intro v' w' k1 k2
      have HR := Lib.hid (show Q8Rel w n v' (.int .i64 (7 - (k : Int) - 1)) w' from ⟨k + 1, by congr 1; omega, hlt, by
        rw [List.take_add_one, HT.out]
        exact k1, HO2.out.grown HW.out (Nat.le_refl _) k2⟩)
      clear k1 k2
      go_wp2
      go_roundw
      case rel => exact HR.out
      case measure => simp [intOf]; omega
    · obtain rfl : k = 8 := by omega
      have hcv := HOW.out.text
      rw [List.take_of_length_le (by rw [eightL_len]; omega)] at hcv
      go_wp2
      go_ret
      exact ⟨rfl, HKP.out⟩
end Go.Proofs.Ytfikdeobejhblaa
