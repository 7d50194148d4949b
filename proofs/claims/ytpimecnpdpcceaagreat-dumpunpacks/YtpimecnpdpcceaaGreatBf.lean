/- Proved: what the document's Bits, Code, Of and Value of layer 4 answer. Condition: numbers fit; texts are short. -/
import Derived.Test.YtpimecnpdpcceaaGreatMb
namespace Go.Proofs.YtpimecnpdpcceaaGreat.Bit
open Go.RowKit

theorem conv_new (c : Nat) (hc : c < 256) (w : World) : (convert 96 9 (.slice (some ⟨w.heap.size, 0, none⟩) 1 1)).run Tryz.prog (w.alloc (.cells #[.int .u8 (c : Nat)] 5)) = .ok (.string ⟨[UInt8.ofNat c].toArray⟩) (w.alloc (.cells #[.int .u8 (c : Nat)] 5)) := by
  have e : (#[.int .u8 (c : Nat)] : Array Value) = ac [UInt8.ofNat c] := by simp [ac, bv, Nat.mod_eq_of_lt hc]
  rw [e]
  exact conv_bytes [UInt8.ofNat c] (heap_alloc_last w _) 1 1 (by simp)
theorem str_bit (v k : Nat) : strL (bitsL v (k + 1)) = strL (bitsL v k) ++ [UInt8.ofNat (48 + v / 2 ^ k % 2)] := by
  rw [bitsL_succ, strL_append]
  congr 1
  rw [← bit_div]
  cases v.testBit k <;> rfl
theorem tmod_bit (v k : Nat) : ((v : Int) / 2 ^ k).tmod 2 = ((v / 2 ^ k % 2 : Nat) : Int) := by
  have h : ((v : Int) / 2 ^ k) = ((v / 2 ^ k : Nat) : Int) := by simp
  rw [h]
  generalize v / 2 ^ k = z at *
  rw [Int.tmod_eq_emod_of_nonneg (by omega)]
  omega
theorem digit_bit (v k : Nat) : IntKind.u64.wrap (48 + ((v : Int) / 2 ^ k).tmod 2) % 256 = ((48 + v / 2 ^ k % 2 : Nat) : Int) := by
  rw [tmod_bit, IntKind.wrap_u64]
  omega
def RBRel (w : World) (v n : Nat) (sv iv : Value) (wr : World) : Prop :=
  ∃ k : Nat, iv = .int .i64 k ∧ sv = .string ⟨(strL (bitsL v k)).toArray⟩ ∧ k ≤ n ∧ Same w wr

set_option maxRecDepth 100000 in
set_option maxHeartbeats 400000 in
theorem rbits (v : Nat) (n : Int) (hv : v < 2 ^ 64) : Gives Tryz.prog 122 #[.int .u64 v, .int .i64 n] (.string ⟨(strL (bitsL v (manyN n))).toArray⟩) := by
  intro w
  have HV := Lib.hid hv
  clear hv
  go_enter Tryz.func122, Tryz.ntmps122
  go_wp2_with fail
  go_loopw [5, 6] (fun sv iv wr => RBRel w v (manyN n) sv iv wr) (fun _ iv _ => 64 - (intOf iv).toNat)
  case atStart => exact ⟨0, rfl, rfl, by omega, Same.refl _⟩
  case round =>
    obtain ⟨k, rfl, rfl, hk, hs⟩ := hrel
    have HS := Lib.hid hs
    clear hs
    have Hm := Lib.hid (show manyN n = (min n 64).toNat from rfl)
    by_cases hkn : (k : Int) < n
    · by_cases hk64 : k < 64
      · have hcv := conv_new (48 + v / 2 ^ k % 2) (by omega) wr
        rw [← digit_bit v k] at hcv
        have Hstr := Lib.hid (str_bit v k)
        have hk2 : k + 1 ≤ manyN n := by have := Hm.out; omega
        have hk64i : ((k : Int) < 64) = True := by simp; omega
        have hln : (strL (bitsL v k)).length ≤ 64 := by rw [strL_len, bitsL_len]; omega
        generalize UInt8.ofNat (48 + v / 2 ^ k % 2) = c at *
        generalize strL (bitsL v k) = s2 at *
        go_wp2
        go_roundw
        case rel => exact ⟨k + 1, by go_num, by rw [Hstr.out, ← app_list], hk2, HS.out.alloc _⟩
        case measure => simp [intOf]; omega
      · go_wp2
        go_ret
        refine ⟨?_, HS.out⟩
        rw [show manyN n = k by have := Hm.out; omega]
        rfl
    · go_wp2
      go_ret
      refine ⟨?_, HS.out⟩
      rw [show manyN n = k by have := Hm.out; omega]
      rfl

def ORel (w : World) (s : List UInt8) (ov iv : Value) (wr : World) : Prop :=
  ∃ k : Nat, iv = .int .i64 k ∧ ov = .string ⟨(strL (ofL (s.take k))).toArray⟩ ∧ k ≤ s.length ∧ Same w wr
theorem ofL_next (s : List UInt8) (k : Nat) (h : k < s.length) : strL (ofL (s.take (k + 1))) = strL (ofL (s.take k)) ++ strL (bitsL (s[k]'h).toNat 8) := by
  rw [List.take_add_one, List.getElem?_eq_getElem h, Option.toList_some, ofL_snoc, strL_append]

set_option maxRecDepth 100000 in
set_option maxHeartbeats 400000 in
theorem rof (s : List UInt8) (hl : s.length ≤ 1000000000) : Gives Tryz.prog 95 #[.string ⟨s.toArray⟩] (.string ⟨(strL (ofL s)).toArray⟩) := by
  intro w
  go_enter Tryz.func95, Tryz.ntmps95
  go_wp2_with fail
  go_loopw [3, 4] (fun ov iv wr => ORel w s ov iv wr) (fun _ iv _ => 1000000000 - (intOf iv).toNat)
  case atStart => exact ⟨0, rfl, rfl, by omega, Same.refl _⟩
  case round =>
    obtain ⟨k, rfl, rfl, hk, hs⟩ := hrel
    have HS := Lib.hid hs
    clear hs
    by_cases hkn : k < s.length
    · have hc : (s[k]'hkn).toNat < 2 ^ 64 := by have := UInt8.toNat_lt (s[k]'hkn); omega
      have hb := rbits (s[k]'hkn).toNat 8 hc
      rw [show manyN 8 = 8 from rfl] at hb
      have Hb := Lib.hid hb
      have Hnx := Lib.hid (ofL_next s k hkn)
      clear hb
      have hge : ∀ h, (({ data := s.toArray } : ByteArray)[k]'h) = s[k]'hkn := fun _ => rfl
      have hln : (strL (ofL (s.take k))).length ≤ 8000000000 := by rw [strL_len, ofL_len, List.length_take]; omega
      have hln2 : (strL (bitsL (s[k]'hkn).toNat 8)).length = 8 := by rw [strL_len, bitsL_len]
      generalize strL (bitsL (s[k]'hkn).toNat 8) = s4 at *
      generalize strL (ofL (s.take k)) = s2 at *
      generalize s[k]'hkn = c at *
      go_wp2_with fail
      refine (Hb.out _).mono ?_
      rintro e w2 ⟨rfl, hs2⟩
      go_wp2
      go_roundw
      case rel => exact ⟨k + 1, by go_num, by rw [Hnx.out, ← app_list], hkn, HS.out.trans hs2⟩
      case measure => simp [intOf]; omega
    · go_wp2
      go_ret
      refine ⟨?_, HS.out⟩
      rw [List.take_of_length_le (by omega)]
      rfl

theorem add_pow (x k : Nat) (h : x + 2 ^ k < 2 ^ 64) : IntKind.u64.wrap ((x : Int) + IntKind.u64.wrap (2 ^ k)) = ((x + 2 ^ k : Nat) : Int) := by
  have e : ((2 : Int) ^ k) = ((2 ^ k : Nat) : Int) := by simp
  rw [e]
  generalize (2 ^ k : Nat) = z at *
  rw [IntKind.wrap_u64, IntKind.wrap_u64]
  omega
def VRel (w : World) (l : List Bool) (vv iv : Value) (wr : World) : Prop :=
  ∃ k : Nat, iv = .int .i64 k ∧ vv = .int .u64 (valL (l.take k) : Nat) ∧ k ≤ l.length ∧ w = wr
theorem strL_get (l : List Bool) (k : Nat) (h : k < l.length) (h2 : k < (strL l).length) : (strL l)[k]'h2 = if l[k]'h then 49 else 48 := by simp [strL]

set_option maxRecDepth 100000 in
set_option maxHeartbeats 400000 in
theorem rvalue (l : List Bool) (hl : l.length ≤ 64) : Gives Tryz.prog 124 #[.string ⟨(strL l).toArray⟩] (.int .u64 (valL l : Nat)) := by
  intro w
  have hsl := strL_len l
  go_enter Tryz.func124, Tryz.ntmps124
  go_wp2_with fail
  go_loopw [3, 4] (fun vv iv wr => VRel w l vv iv wr) (fun _ iv _ => 64 - (intOf iv).toNat)
  case atStart => exact ⟨0, rfl, rfl, by omega, rfl⟩
  case round =>
    obtain ⟨k, rfl, rfl, hk, rfl⟩ := hrel
    by_cases hkn : k < l.length
    · have hg := strL_get l k hkn (by rw [hsl]; exact hkn)
      have hnx := val_next l k hkn
      have hlt := val_le l (k + 1) hkn
      have hp : 2 ^ (k + 1) ≤ 2 ^ 64 := Nat.pow_le_pow_right (by omega) (by omega)
      have hp0 : 2 ^ k < 2 ^ 64 := Nat.pow_lt_pow_right (by omega) (by omega)
      have Hnx := Lib.hid hnx
      cases hb : l[k]'hkn
      · have hz : (strL l)[k]'(by rw [hsl]; exact hkn) = 48 := by rw [hg, hb]; rfl
        rw [hb] at Hnx
        have hge : ∀ h, (({ data := (strL l).toArray } : ByteArray)[k]'h) = 48 := fun _ => hz
        clear hg hz hnx
        go_wp2
        go_roundw
        case rel => exact ⟨k + 1, by go_num, by rw [Hnx.out]; simp, hkn, rfl⟩
        case measure => simp [intOf]; omega
      · have hz : (strL l)[k]'(by rw [hsl]; exact hkn) = 49 := by rw [hg, hb]; rfl
        rw [hb] at Hnx
        have hge : ∀ h, (({ data := (strL l).toArray } : ByteArray)[k]'h) = 49 := fun _ => hz
        clear hg hz
        rw [hb] at hnx
        have hsm : valL (l.take k) + 2 ^ k < 2 ^ 64 := by simp at hnx; omega
        clear hnx
        go_wp2
        go_roundw
        case rel => exact ⟨k + 1, by go_num, by rw [Hnx.out, add_pow _ _ hsm]; simp, hkn, rfl⟩
        case measure => simp [intOf]; omega
    · go_wp2
      go_ret
      refine ⟨?_, Same.refl _⟩
      rw [List.take_of_length_le (by omega)]
      rfl

def KRel (w : World) (x : Nat) (kv : Value) (wr : World) : Prop := ∃ k : Nat, kv = .int .i64 k ∧ k ≤ (x + 1).log2 ∧ w = wr
def ZRel (w : World) (m : Nat) (sv iv : Value) (wr : World) : Prop := ∃ k : Nat, iv = .int .i64 k ∧ sv = .string ⟨(strL (List.replicate k false)).toArray⟩ ∧ k ≤ m ∧ w = wr
theorem log_more (x k : Nat) (_h : k ≤ (x + 1).log2) : (0 < (x + 1) / 2 ^ (k + 1)) ↔ k < (x + 1).log2 := by
  rw [Nat.div_pos_iff]
  constructor
  · intro h1
    have := (Nat.le_log2 (n := x + 1) (k := k + 1) (by omega)).2 h1.2
    omega
  · intro h1
    exact ⟨Nat.pow_pos (by omega), (Nat.le_log2 (n := x + 1) (k := k + 1) (by omega)).1 (by omega)⟩
theorem str_code (x : Nat) : strL (codeL x) = (strL (List.replicate (x + 1).log2 false) ++ [49]) ++ strL (bitsL (x + 1) (x + 1).log2) := by
  unfold codeL
  rw [strL_append]
  simp [strL]
theorem str_nought (k : Nat) : strL (List.replicate (k + 1) false) = strL (List.replicate k false) ++ [48] := by
  rw [List.replicate_succ', strL_append]
  rfl

end Go.Proofs.YtpimecnpdpcceaaGreat.Bit
