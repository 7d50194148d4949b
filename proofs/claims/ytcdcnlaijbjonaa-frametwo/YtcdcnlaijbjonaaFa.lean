/- Proved: a frame's head and a frame in memory; what lay, number, fits and headOf of frame answer. Condition: numbers fit. -/
import Derived.Test.YtcdcnlaijbjonaaKd
import Derived.Test.YtcdcnlaijbjonaaFp
import Derived.Test.YtcdcnlaijbjonaaJ
import Derived.Lib.BufferWrite
namespace Go.Proofs.Ytcdcnlaijbjonaa
open Go.RowKit

def bv (c : UInt8) : Value := .int .u8 (c.toNat : Nat)
def ac (l : List UInt8) : Array Value := (l.map bv).toArray
theorem ac_get (l : List UInt8) (i : Nat) (h : i < l.length) : (ac l)[i]? = some (.int .u8 (l[i].toNat : Nat)) := by
  simp [ac, h, bv]
theorem ac_size (l : List UInt8) : (ac l).size = l.length := by simp [ac]
theorem ac_one (l : List UInt8) : ∀ v ∈ (ac l).toList, v.oneCell' = true := by
  intro v hv
  simp only [ac, List.mem_map] at hv
  obtain ⟨c, _, rfl⟩ := hv
  rfl
theorem ac_set (l : List UInt8) (j : Nat) (c : Nat) (hc : c < 256) : (ac l).setIfInBounds j (.int .u8 (c : Nat)) = ac (l.set j (UInt8.ofNat c)) := by
  unfold ac
  apply Array.ext'
  simp only [Array.toList_setIfInBounds, List.map_set]
  unfold bv
  rw [UInt8.toNat_ofNat_of_lt' hc]
/-- A head lies in block b. -/
structure HAt (w : World) (b : Nat) (h : List UInt8) : Prop where
  block : w.heap[b]? = some (.cells (ac h) 41 (0, 0))
  len : h.length = 15
theorem HAt.keep {w w' : World} {b : Nat} {h : List UInt8} (q : HAt w b h) (k : Keep w w') : HAt w' b h := ⟨k.obj q.block, q.len⟩
theorem HAt.byte {w : World} {b : Nat} {h : List UInt8} (q : HAt w b h) (i : Nat) (hi : i < 15) : w.cell? ⟨b, i, none⟩ = some (.int .u8 ((h.getD i 0).toNat : Nat)) := by
  have hl := q.len
  rw [cell_obj q.block (ac_get h i (by omega))]
  simp [show i < h.length by omega]
theorem HAt.set {w : World} {b : Nat} {h : List UInt8} (q : HAt w b h) (j c : Nat) (hc : c < 256) : HAt (w.setCell ⟨b, j, none⟩ (.int .u8 (c : Nat))) b (h.set j (UInt8.ofNat c)) :=
  ⟨by rw [block_set q.block, ac_set h j c hc], by rw [List.length_set]; exact q.len⟩
theorem HAt.free {w : World} {b : Nat} {h : List UInt8} (q : HAt w b h) (j : Nat) : w.frozen? ⟨b, j, none⟩ = false := by simp [World.frozen?, q.block]

/-- A number laid into bytes. -/
def put (h : List UInt8) (i k n : Nat) : List UInt8 := h.take i ++ (be k n ++ h.drop (i + k))
theorem put_len (h : List UInt8) (i k n : Nat) (hk : i + k ≤ h.length) : (put h i k n).length = h.length := by
  unfold put
  rw [List.length_append, List.length_append, be_len, List.length_take, List.length_drop]
  omega
theorem put_next (h : List UInt8) (i k n j : Nat) (hk : i + k ≤ h.length) (hj : j < k) : (put h (i + (k - j)) j n).set (i + k - 1 - j) (byteAt n j) = put h (i + (k - (j + 1))) (j + 1) n := by
  have h2 : i + (k - j) + j = i + (k - (j + 1)) + (j + 1) := by omega
  unfold put
  rw [h2]
  generalize h.drop (i + (k - (j + 1)) + (j + 1)) = r
  have h3 : i + (k - j) = i + (k - (j + 1)) + 1 := by omega
  rw [h3]
  have h4 : i + k - 1 - j = i + (k - (j + 1)) := by omega
  rw [h4]
  have h5 : i + (k - (j + 1)) < h.length := by omega
  generalize i + (k - (j + 1)) = m at *
  rw [List.take_add_one, List.getElem?_eq_getElem h5, Option.toList_some, be, List.append_assoc]
  rw [List.set_append_right _ _ (by rw [List.length_take]; omega), List.length_take, Nat.min_eq_left (by omega), Nat.sub_self]
  rfl
theorem byte_int (n j : Nat) : ((n : Int) / 2 ^ (8 * j)) % 256 = ((n / 256 ^ j % 256 : Nat) : Int) := by
  rw [show (256 : Nat) ^ j = 2 ^ (8 * j) by rw [show (256 : Nat) = 2 ^ 8 from rfl, ← Nat.pow_mul]]
  simp
def LayRel (w : World) (b : Nat) (h : List UInt8) (i k n : Nat) (v : Value) (wr : World) : Prop :=
  ∃ j : Nat, v = .int .i64 j ∧ j ≤ k ∧ HAt wr b (put h (i + (k - j)) j n) ∧ Only b w wr
theorem Only.drew {b : Nat} {w w' : World} (h : Only b w w') : Only b w w'.drew := ⟨h.os, h.tape, h.output, h.size, h.block⟩

set_option maxRecDepth 100000 in
theorem lay_at (b : Nat) (h : List UInt8) (i k n : Nat) (hik : i + k ≤ 15) (hk4 : k ≤ 4) (_hn : n < 4294967296) (w : World) (q : HAt w b h) :
    Calls Try.prog 26 #[.pointer (some ⟨b, 0, none⟩), .int .i64 i, .int .i64 k, .int .i64 n] w fun e w' => e = .returned (.tuple #[]) ∧ HAt w' b (put h i k n) ∧ Only b w w' := by
  have HQ := Lib.hid (show HAt w b (put h (i + (k - 0)) 0 n) from by
    unfold put be
    rw [Nat.sub_zero, Nat.add_zero, List.nil_append, List.take_append_drop]
    exact q)
  have HL := Lib.hid q.len
  clear q
  go_enter Try.func26, Try.ntmps26
  go_wp2
  go_loopw [10] (fun v wr => LayRel w b h i k n v wr) (fun v _ => k - (intOf v).toNat)
  case atStart => exact ⟨0, rfl, Nat.zero_le _, HQ.out, Only.refl _ _⟩
  case round =>
    obtain ⟨j, rfl, hj, hA, hO⟩ := hrel
    have HA := Lib.hid hA
    have HO := Lib.hid hO
    clear hA hO
    by_cases hlt : j < k
    · obtain ⟨m, hm⟩ : ∃ m : Nat, i + k - 1 - j = m := ⟨_, rfl⟩
      have hidx : (i : Int) + (k : Int) - 1 - (j : Int) = (m : Int) := by omega
      have hm15 : m < 15 := by omega
      have hcell := HA.out.byte m hm15
      have hfree := HA.out.free m
      have hb := byte_int n j
      have hc256 : n / 256 ^ j % 256 < 256 := Nat.mod_lt _ (by omega)
      have HN := Lib.hid (put_next h i k n j (by rw [HL.out]; exact hik) hlt)
      rw [hm] at HN
      unfold byteAt at HN
      generalize n / 256 ^ j % 256 = c at *
      go_wp2
      go_region
      have HB := Lib.hid (HA.out.set m c hc256)
      rw [HN.out] at HB
      have HO2 := Lib.hid ((HO.out.trans (Only.setCell b m wr (.int .u8 (c : Nat)))).drew)
      clear hcell hfree HA HO hb
      go_wp2
      go_roundw
      case rel => exact ⟨j + 1, by go_num, by omega, HB.out.keep ((Keep.refl _).drew), HO2.out⟩
      case measure => simp [intOf]; omega
    · obtain rfl : k = j := by omega
      go_wp2
      go_returns
      exact ⟨rfl, by simpa using HA.out, HO.out⟩

theorem i64_or_nat (a b : Nat) (ha : a < 4294967296) (hb : b < 4294967296) : bits .or .i64 (a : Int) (b : Int) = ((a ||| b : Nat) : Int) := by
  have hx : a ||| b < 2 ^ 32 := Nat.or_lt_two_pow (by omega) (by omega)
  show IntKind.i64.wrap ((BitVec.ofInt 64 (a : Int) ||| BitVec.ofInt 64 (b : Int)).toNat : Int) = _
  rw [BitVec.toNat_or, ofInt_u64 a (by omega), ofInt_u64 b (by omega), IntKind.wrap_i64]
  omega
theorem shl_or (n : Nat) (c : UInt8) (hn : n < 16777216) : bits .or .i64 ((n : Int) * 256) (c.toNat : Int) = ((256 * n + c.toNat : Nat) : Int) := by
  have hc := c.toNat_lt
  have := i64_or_nat (n * 256) c.toNat (by omega) (by omega)
  rw [show n * 256 ||| c.toNat = 256 * n + c.toNat from by rw [Nat.mul_comm, show (256 : Nat) = 2 ^ 8 from rfl, ← Nat.two_pow_add_eq_or_of_lt (by exact hc)]] at this
  simpa using this
def NumRel (w : World) (l : List UInt8) (k : Nat) (a v : Value) (wr : World) : Prop :=
  ∃ j : Nat, v = .int .i64 j ∧ j ≤ k ∧ a = .int .i64 (vbF 0 (l.take j) : Nat) ∧ wr = w
theorem vbF_more (l : List UInt8) (j : Nat) (hj : j < l.length) : vbF 0 (l.take (j + 1)) = 256 * vbF 0 (l.take j) + (l[j]'hj).toNat := by
  have h : ∀ (m : List UInt8) (a : Nat) (c : UInt8), vbF a (m ++ [c]) = 256 * vbF a m + c.toNat := by
    intro m
    induction m with
    | nil => intro a c; rfl
    | cons x m ih => intro a c; rw [List.cons_append, vbF, vbF, ih]
  rw [List.take_add_one, List.getElem?_eq_getElem hj, Option.toList_some, h]
theorem vbF_lt (l : List UInt8) (j : Nat) (hj : j ≤ 3) : vbF 0 (l.take j) < 16777216 := by
  have h := (vbF_split (l.take j) 0).2
  have h2 : (l.take j).length ≤ 3 := by rw [List.length_take]; omega
  exact Nat.lt_of_lt_of_le h (Nat.pow_le_pow_right (n := 256) (by omega) h2)

theorem cut_head (b i k : Nat) (h : i + k ≤ 15) (hk : 0 < k) (w : World) : (Instr.sliceAt 41 (.pointer (some ⟨b, 0, none⟩)) (some (.int .i64 i)) (some (.int .i64 ((i : Int) + (k : Int)))) none).run Try.prog w = .ok (.slice (some ⟨b, i, none⟩) k (15 - i)) w := by
  have hn : Try.prog.arrayLen 41 = 15 := by kernel_rfl
  have he : Try.prog.elem 41 = 5 := by kernel_rfl
  have := run_sliceAt_array_lh (P := Try.prog) w 41 ⟨b, 0, none⟩ (by kernel_rfl) .i64 .i64 (i : Int) ((i : Int) + (k : Int)) (by omega) (by omega) (by omega)
  rw [this, he, Try.sizeOf5 w]
  have e : ((i : Int) + (k : Int)).toNat - i = k := by omega
  simp [slicedAt, hn, Addr.add, e, show ¬ 15 = i by omega]
  exact fun h => h.symm
theorem all_head (b : Nat) (w : World) : (Instr.sliceAt 41 (.pointer (some ⟨b, 0, none⟩)) none none none).run Try.prog w = .ok (.slice (some ⟨b, 0, none⟩) 15 15) w := by
  have hn : Try.prog.arrayLen 41 = 15 := by kernel_rfl
  have he : Try.prog.elem 41 = 5 := by kernel_rfl
  have := run_sliceAt_array_all (P := Try.prog) w 41 ⟨b, 0, none⟩ (by kernel_rfl)
  rw [this, he, Try.sizeOf5 w]
  simp [slicedAt, hn, Addr.add]
set_option maxRecDepth 100000 in
theorem number_at (b : Nat) (h : List UInt8) (i k : Nat) (hik : i + k ≤ 15) (hk4 : k ≤ 4) (hk0 : 0 < k) (w : World) (q : HAt w b h) :
    Calls Try.prog 19 #[.pointer (some ⟨b, 0, none⟩), .int .i64 i, .int .i64 k] w fun e w' => e = .returned (.int .i64 (numb h i k : Nat)) ∧ w' = w := by
  have HQ := Lib.hid q
  have hcut := fun w => cut_head b i k hik hk0 w
  have hl := q.len
  obtain ⟨l, hl0⟩ : ∃ l, (h.drop i).take k = l := ⟨_, rfl⟩
  have hlk : l.length = k := by rw [← hl0, List.length_take, List.length_drop]; omega
  have HG := Lib.hid (fun (j : Nat) (hj : j < l.length) => (show l[j] = h.getD (i + j) 0 by
    subst hl0
    have h2 : i + j < h.length := by omega
    simp [h2]))
  have HN := Lib.hid (show numb h i k = vbF 0 l by unfold numb; rw [hl0])
  have HLK := Lib.hid hlk
  clear q hl0 hl hlk
  rw [HN.out]
  go_enter Try.func19, Try.ntmps19
  go_wp2
  go_loopw [7, 18] (fun a v wr => NumRel w l k a v wr) (fun _ v _ => k - (intOf v).toNat)
  case atStart => exact ⟨0, rfl, Nat.zero_le _, rfl, rfl⟩
  case round =>
    obtain ⟨j, rfl, hj, rfl, rfl⟩ := hrel
    by_cases hlt : j < k
    · have hjl : j < l.length := by rw [HLK.out]; exact hlt
      have hcell := HQ.out.byte (i + j) (by omega)
      rw [← HG.out j hjl] at hcell
      have hv := vbF_lt l j (by omega)
      have hor := shl_or (vbF 0 (l.take j)) l[j] hv
      rw [← vbF_more l j hjl] at hor
      have hc := l[j].toNat_lt
      generalize l[j].toNat = c at *
      generalize vbF 0 (l.take j) = x at *
      go_wp2
      go_roundw
      case rel => exact ⟨j + 1, by go_num, by omega, rfl, rfl⟩
      case measure => simp [intOf]; omega
    · obtain rfl : k = j := by omega
      rw [List.take_of_length_le (by rw [HLK.out]; exact Nat.le_refl _)]
      go_wp2
      go_ret
      exact ⟨rfl, rfl⟩
end Go.Proofs.Ytcdcnlaijbjonaa
