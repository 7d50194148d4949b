/- Proved: bytes in memory; what Behind of sack and of the document answer: the bits of those behind a base, as bytes. Condition: the map lies in memory (M, or a list of bools in memory), or the pointer is nil. -/
import Derived.Test.YtifcibmpeolmdaaDoorMf
import Derived.Laws.BytesArg
import Derived.Laws.IdiomStrings
namespace Go.Proofs.YtifcibmpeolmdaaDoor
open Go.RowKit

def bv (c : UInt8) : Value := .int .u8 (c.toNat : Nat)
def ac (l : List UInt8) : Array Value := (l.map bv).toArray
theorem ac_get (l : List UInt8) (i : Nat) (h : i < l.length) : (ac l)[i]? = some (.int .u8 (l[i].toNat : Nat)) := by
  simp [ac, h, bv]
theorem ac_size (l : List UInt8) : (ac l).size = l.length := by simp [ac]
theorem ac_set (l : List UInt8) (i c : Nat) (hc : c < 256) : (ac l).setIfInBounds i (.int .u8 (c : Nat)) = ac (l.set i (UInt8.ofNat c)) := by
  have e : Value.int .u8 (c : Nat) = bv (UInt8.ofNat c) := by unfold bv; rw [UInt8.toNat_ofNat_of_lt' hc]
  rw [e]
  unfold ac
  rw [List.map_set]
  simp
theorem made_ac (k : Nat) : madeCells (Value.int .u8 0).cells (k * 1) = ac (List.replicate k 0) := by
  apply Array.ext
  · rw [size_madeCells, ac_size]; simp
  · intro i h1 h2
    simp [madeCells, Value.cells, ac, bv, Nat.mod_one]
theorem make_at (k : Nat) (hk : k ≤ 281474976710656) (w : World) : (Instr.makeSlice 60 (.int .i64 k) (.int .i64 k)).run Tryd.prog w = .ok (.slice (some ⟨w.heap.size, 0, none⟩) k k) (w.alloc (.cells (ac (List.replicate k 0)) 5)) := by
  obtain ⟨i0, hi, hz0, hz1, hz2⟩ := info_parts info5
  have h := run_make (P := Tryd.prog) w 60 5 i0 (.int .u8 0) Tryd.underlying60 hi hz0 .i64 .i64 k k (by omega) (Int.le_refl _) (by rw [hz2]; omega) (by omega)
  rw [h, hz1, Int.toNat_natCast, made_ac]
theorem conv_bytes {w : World} {b : Nat} {t : TypeId} {fz : Nat × Nat} (L : List UInt8) (h : w.heap[b]? = some (.cells (ac L) t fz)) (n cap : Nat) (hn : n = L.length) : (convert 60 9 (.slice (some ⟨b, 0, none⟩) n cap)).run Tryd.prog w = .ok (.string ⟨L.toArray⟩) w := by
  subst hn
  refine run_convert_bytes_back (P := Tryd.prog) w 60 9 5 ⟨b, 0, none⟩ cap L Tryd.underlying60 Tryd.underlying5 Tryd.underlying9 ?_
  intro j hj
  have hadd : (⟨b, 0, none⟩ : Addr).add j = ⟨b, j, none⟩ := by unfold Addr.add; split <;> simp_all
  rw [hadd]
  exact cell_obj h (ac_get L j hj)
theorem pow_le8 (k : Nat) (hk : k < 8) : 2 ^ k * 2 ≤ 256 := by
  have : 2 ^ k * 2 = 2 ^ (k + 1) := by rw [Nat.pow_succ]
  rw [this]; exact Nat.pow_le_pow_right (n := 2) (by omega) (show k + 1 ≤ 8 by omega)
theorem or_bit (x k : Nat) (hk : k < 8) (hx : x < 2 ^ k) : bits .or .u8 (x : Int) ((2 : Int) ^ k % 256) = ((x + 2 ^ k : Nat) : Int) ∧ x + 2 ^ k < 256 := by
  have h8 := pow_le8 k hk
  have e : ((2 : Int) ^ k % 256) = ((2 ^ k : Nat) : Int) := by
    have : ((2 : Int) ^ k) = ((2 ^ k : Nat) : Int) := by simp
    rw [this]
    generalize 2 ^ k = p at *
    omega
  refine ⟨?_, by omega⟩
  rw [e, u8_or_nat x (2 ^ k) (by omega) (by omega)]
  congr 1
  have h1 := Nat.two_pow_add_eq_or_of_lt hx 1
  rw [Nat.mul_one] at h1
  rw [Nat.or_comm, ← h1, Nat.add_comm]
theorem add_bit (x k : Nat) (hk : k < 8) (hx : x < 2 ^ k) : ((x : Int) + (2 : Int) ^ k % 256) % 256 = ((x + 2 ^ k : Nat) : Int) ∧ x + 2 ^ k < 256 := by
  have h8 := pow_le8 k hk
  have : ((2 : Int) ^ k) = ((2 ^ k : Nat) : Int) := by simp
  rw [this]
  generalize 2 ^ k = p at *
  omega
/-- The bytes so far as they are told. -/
def tolK (l : List Bool) (kk j : Nat) : List UInt8 := bytesN (behL l j) ((kk + 7) / 8)
theorem tolK_len (l : List Bool) (kk j : Nat) : (tolK l kk j).length = (kk + 7) / 8 := bytesN_len _ _
theorem tolK_zero (l : List Bool) (kk : Nat) : tolK l kk 0 = List.replicate ((kk + 7) / 8) 0 := by
  unfold tolK
  rw [show behL l 0 = [] from rfl, bytesN_nil]
theorem tolK_full (l : List Bool) (kk : Nat) : tolK l kk kk = bytesL (behL l kk) := by
  unfold tolK bytesL
  rw [behL_len]
theorem tolK_get (l : List Bool) (kk j i : Nat) (h : i < (tolK l kk j).length) : ((tolK l kk j)[i]'h).toNat = byteN (behL l j) i := by
  have h2 : (tolK l kk j)[i]? = some (UInt8.ofNat (byteN (behL l j) i)) := bytesN_get _ _ _ (by rw [tolK_len] at h; exact h)
  rw [List.getElem?_eq_getElem h] at h2
  injection h2 with h2
  rw [h2, UInt8.toNat_ofNat_of_lt' (byteN_lt _ _)]
theorem tolK_yes (l : List Bool) (kk j : Nat) (h : l.getD (baseN l + 1 + j) false = true) : tolK l kk (j + 1) = (tolK l kk j).set (j / 8) (UInt8.ofNat (byteN (behL l j) (j / 8) + 2 ^ (j % 8))) := by
  unfold tolK
  rw [behL_succ, bytesN_snoc, behL_len, h, Bool.toNat_true, Nat.one_mul]
theorem tolK_no (l : List Bool) (kk j : Nat) (hj : j < kk) (h : l.getD (baseN l + 1 + j) false = false) : tolK l kk (j + 1) = tolK l kk j := by
  unfold tolK
  rw [behL_succ, bytesN_snoc, behL_len, h, Bool.toNat_false, Nat.zero_mul]
  have hg := bytesN_get (behL l j) ((kk + 7) / 8) (j / 8) (by omega)
  refine List.ext_getElem? fun i => ?_
  rw [List.getElem?_set]
  split
  · rename_i e
    subst e
    rw [bytesN_len, if_pos (by omega), hg, Nat.add_zero]
  · rfl
theorem tol_last (l : List Bool) (j : Nat) : byteN (behL l j) (j / 8) < 2 ^ (j % 8) := by
  have := byteN_last_lt (behL l j)
  rwa [behL_len] at this

def BhRel (w : World) (l : List Bool) (g kk : Nat) (iv : Value) (wr : World) : Prop :=
  ∃ j : Nat, iv = .int .i64 j ∧ j ≤ kk ∧ wr.heap[g]? = some (.cells (ac (tolK l kk j)) 5 (0, 0)) ∧ Keep w wr

set_option maxRecDepth 100000 in
theorem behind_nil (k : Int) (w : World) : Calls Tryd.prog 39 #[.pointer none, .int .i64 k] w fun e w' => e = .returned (.string ⟨#[]⟩) ∧ w' = w := by
  go_enter Tryd.func39, Tryd.ntmps39
  go_wp2
  go_ret
  exact ⟨rfl, rfl⟩
set_option maxRecDepth 100000 in
set_option maxHeartbeats 400000 in
theorem behind_at (p : Nat) (l : List Bool) (k : Int) (w : World) (h : M w p l) : Calls Tryd.prog 39 #[.pointer (some ⟨p, 0, none⟩), .int .i64 k] w fun e w' => e = .returned (.string ⟨(behB l k).toArray⟩) ∧ Keep w w' := by
  have hf := h.few
  have HM := Lib.hid h
  obtain ⟨y, hy⟩ : ∃ y, max k 0 = y := ⟨_, rfl⟩
  obtain ⟨kk, hkk⟩ : ∃ kk, kN k = kk := ⟨_, rfl⟩
  have hk256 := kN_le k
  rw [hkk] at hk256
  have hmax : ∀ w ts t, (Builtin.max_ ts t #[.int .i64 k, .int .i64 0]).run Tryd.prog w = .ok (.int .i64 y) w := fun w ts t => by
    rw [run_max_int2, show (if (0 : Int) > k then 0 else k) = y by omega]
  have hmin : ∀ w ts t, (Builtin.min_ ts t #[.int .i64 y, .int .i64 256]).run Tryd.prog w = .ok (.int .i64 kk) w := fun w ts t => by
    rw [run_min_int2, show (if (256 : Int) < y then (256 : Int) else y) = kk by unfold kN at hkk; omega]
  obtain ⟨K, hK⟩ : ∃ K, (kk + 7) / 8 = K := ⟨_, rfl⟩
  have hmk := make_at K (by omega) w
  rw [show ((K : Nat) : Int) = ((kk : Int) + 7) / 8 by omega] at hmk
  have HB : Hid (behB l k = tolK l kk kk) := Lib.hid (by unfold behB; rw [hkk, tolK_full])
  have HS : Hid (∀ i w1, Keep w w1 → Calls Tryd.prog 44 #[.pointer (some ⟨p, 0, none⟩), .int .i64 i] w1 fun e w' => e = .returned (.bool (hasB l i)) ∧ Keep w1 w') := Lib.hid fun i w1 q => has_at p l i w1 (HM.out.keep q)
  have HBs : Hid (∀ w1, Keep w w1 → Calls Tryd.prog 38 #[.pointer (some ⟨p, 0, none⟩)] w1 fun e w' => e = .returned (.int .i64 (baseN l : Nat)) ∧ w' = w1) := Lib.hid fun w1 q => mbase_at p l w1 (HM.out.keep q)
  have H0 := Lib.hid (show BhRel w l w.heap.size kk (.int .i64 0) (w.alloc (.cells (ac (List.replicate K 0)) 5)) from ⟨0, rfl, Nat.zero_le _, by rw [tolK_zero, hK]; exact heap_alloc_last w _, (Keep.refl w).alloc _⟩)
  have HKa := Lib.hid ((Keep.refl w).alloc (.cells (ac (List.replicate K 0)) 5))
  have hbl := base_le l
  have HKK := Lib.hid hK
  have HB2 := Lib.hid hkk
  clear h hy hkk hK
  go_enter Tryd.func39, Tryd.ntmps39
  go_wp2_with fail
  refine (HBs.out _ HKa.out).mono ?_
  rintro e w1 ⟨rfl, rfl⟩
  go_wp2
  generalize hgg : w.heap.size = g at *
  have HG := Lib.hid hgg
  clear hgg
  go_loopw [21] (fun i wr => BhRel w l g kk i wr) (fun i _ => kk - (intOf i).toNat)
  case atStart => exact H0.out
  case round =>
    obtain ⟨j, rfl, hj, hb, hk⟩ := hrel
    have HBk := Lib.hid hb
    have HK := Lib.hid hk
    clear hb hk H0 HKa hmk
    by_cases hlt : j < kk
    · have HH := Lib.hid (HS.out ((baseN l : Int) + 1 + j) wr HK.out)
      have hE : hasB l ((baseN l : Int) + 1 + j) = l.getD (baseN l + 1 + j) false := by
        rw [show (baseN l : Int) + 1 + j = ((baseN l + 1 + j : Nat) : Int) by omega, hasB_nat]
      rw [hE] at HH
      clear hE
      cases hg : l.getD (baseN l + 1 + j) false
      · have HE := Lib.hid (tolK_no l kk j hlt hg)
        rw [hg] at HH
        generalize baseN l = B at *
        go_wp2_with fail
        refine HH.out.mono ?_
        rintro e w2 ⟨rfl, k2⟩
        go_wp2
        go_roundw
        case rel => exact ⟨j + 1, by go_num, hlt, by rw [HE.out]; exact k2.obj HBk.out, HK.out.trans k2⟩
        case measure => simp [intOf]; omega
      · have HE := Lib.hid (tolK_yes l kk j hg)
        rw [hg] at HH
        have hl2 : j / 8 < (tolK l kk j).length := by rw [tolK_len]; omega
        have hget := tolK_get l kk j (j / 8) hl2
        obtain ⟨hor, hx⟩ := or_bit (byteN (behL l j) (j / 8)) (j % 8) (Nat.mod_lt _ (by omega)) (tol_last l j)
        have hcell : ∀ w', Keep wr w' → w'.cell? ⟨g, j / 8, none⟩ = some (.int .u8 (byteN (behL l j) (j / 8) : Nat)) := fun w' q => by rw [← hget]; exact cell_obj (q.obj HBk.out) (ac_get _ _ hl2)
        have hfree : ∀ w', Keep wr w' → w'.frozen? ⟨g, j / 8, none⟩ = false := fun w' q => by simp [World.frozen?, q.obj HBk.out]
        have hput : ∀ w', Keep wr w' → (w'.setCell ⟨g, j / 8, none⟩ (.int .u8 (byteN (behL l j) (j / 8) + 2 ^ (j % 8) : Nat))).heap[g]? = some (.cells (ac (tolK l kk (j + 1))) 5 (0, 0)) := fun w' q => by
          rw [block_set (q.obj HBk.out), ac_set _ _ _ hx, HE.out]
        have HC := Lib.hid hcell
        have HF := Lib.hid hfree
        have HP := Lib.hid hput
        have hj8 : j / 8 < K := by have := HKK.out; omega
        generalize byteN (behL l j) (j / 8) + 2 ^ (j % 8) = y2 at *
        generalize byteN (behL l j) (j / 8) = x at *
        clear hcell hfree hput hget hl2 hx
        generalize baseN l = B at *
        go_wp2_with fail
        refine HH.out.mono ?_
        rintro e w2 ⟨rfl, k2⟩
        have hc := HC.out _ k2
        have hfr := HF.out _ k2
        have HP2 := Lib.hid (HP.out _ k2)
        have HK2 := Lib.hid (HK.out.trans k2)
        clear HC HF HP k2
        go_wp2_with fail
        go_region
        go_wp2
        go_roundw
        case rel => exact ⟨j + 1, by go_num, hlt, HP2.out, (HK2.out.setCell _ _ _ (by rw [HG.out]; exact Nat.le_refl _)).drew⟩
        case measure => simp [intOf]; omega
    · obtain rfl : j = kk := by omega
      have hcv := conv_bytes _ HBk.out K K (by rw [tolK_len]; exact HKK.out.symm)
      generalize baseN l = B at *
      go_wp2
      go_ret
      rw [HB.out]
      exact ⟨rfl, HK.out⟩
end Go.Proofs.YtifcibmpeolmdaaDoor
