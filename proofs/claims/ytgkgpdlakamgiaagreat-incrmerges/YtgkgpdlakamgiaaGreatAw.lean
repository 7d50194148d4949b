/- Proved: what the law's inc answers; the few rows of the laws' first line. No condition. -/
import Derived.Test.YtgkgpdlakamgiaaGreatIh
import Derived.Test.YtgkgpdlakamgiaaGreatId
import Derived.Test.YtgkgpdlakamgiaaGreatIe
namespace Go.Proofs.YtgkgpdlakamgiaaGreat
open Go.RowKit

/-- The prefix of four bytes, and of eight bits. -/
def fourP (a : Nat) : Px := ⟨false, cutL (padL [UInt8.ofNat a, 0, 0, 0]) 8, 8⟩
theorem fourP_len (a : Nat) : (fourP a).addr.length = 16 := by
  show (cutL (padL [UInt8.ofNat a, 0, 0, 0]) 8).length = 16
  exact cutL_len _ _
theorem fourP_make (a : Nat) : makeP false [UInt8.ofNat a, 0, 0, 0] 8 = some (fourP a) := by
  unfold makeP
  rw [if_pos ⟨rfl, by decide⟩]
  rfl
theorem fourP_right (a : Nat) : rightP (fourP a) := by
  unfold fourP
  exact ⟨show (0 : Int) ≤ 8 by decide, show (8 : Int) ≤ 8 * (sizeN false : Nat) by decide, cutL_tail _ 8 (by omega)⟩
def rA (a : Nat) (m : Int) : Rt := ⟨fourP a, m, 0, fourP_len a⟩
theorem rA_right (a : Nat) (m : Int) (h0 : 0 ≤ m) (h1 : m < 65535) : rightR (rA a m) := ⟨fourP_right a, h0, h1⟩

set_option maxRecDepth 100000 in
set_option maxHeartbeats 1000000 in
theorem iinc (k m : Int) (a : Nat) (ha : a < 256) : GivesK Tryz.prog 21 #[.int .i64 k, .int .i64 a, .int .i64 m] (.agg (ic ⟨k, rA a m⟩)) := by
  intro w
  obtain ⟨hz, hi⟩ := zero_of_info info24b
  obtain ⟨hz1, hi1⟩ := zero_of_info info43b
  obtain ⟨n, hn⟩ : ∃ n, n = 21 := ⟨21, rfl⟩
  have hsz : ∀ w, (Go.sizeOf 59).run Tryz.prog w = .ok n w := fun w => by rw [hn]; exact Tryz.sizeOf59 w
  obtain ⟨n2, hn2⟩ : ∃ n, n = 18 := ⟨18, rfl⟩
  have hsz2 : ∀ w, (Go.sizeOf 54).run Tryz.prog w = .ok n2 w := fun w => by rw [hn2]; exact Tryz.sizeOf54 w
  have hA := IAt.new w zeroI
  have hzi : (ic zeroI).size = n := by rw [hn]; exact ic_size _
  have hxi : (ic ⟨k, rA a m⟩).size = n := by rw [hn]; exact ic_size _
  have hzs : (pc zeroP).size = n2 := by rw [hn2]; exact pc_size _ zeroP_len
  have hpz : (pc (fourP a)).size = n2 := by rw [hn2]; exact pc_size _ (fourP_len a)
  have HM := Lib.hid (qmake_ok false [UInt8.ofNat a, 0, 0, 0] 8 (fourP a) (fourP_make a)).keep
  have hmod : (a : Int) % 256 = a := by omega
  have hbk : ((w.alloc (.cells (ic zeroI) 59)).alloc (.cells #[.int .u8 (a : Nat), .int .u8 0, .int .u8 0, .int .u8 0] 5)).heap[w.heap.size + 1]? = some (.cells (ac [UInt8.ofNat a, 0, 0, 0]) 5 (0, 0)) := by
    have h1 := heap_alloc_last (w.alloc (.cells (ic zeroI) 59)) (.cells #[.int .u8 (a : Nat), .int .u8 0, .int .u8 0, .int .u8 0] 5)
    rw [show (w.alloc (.cells (ic zeroI) 59)).heap.size = w.heap.size + 1 by simp] at h1
    rw [h1]
    simp [ac, bv, UInt8.toNat_ofNat', Nat.mod_eq_of_lt ha]
  have hcv := conv_bytes [UInt8.ofNat a, 0, 0, 0] hbk 4 (by simp) 4
  rw [List.take_of_length_le (by simp)] at hcv
  have HN := Lib.hid hn
  have HN2 := Lib.hid hn2
  have HA := Lib.hid hA
  have HK := Lib.hid (show Keep w ((w.alloc (.cells (ic zeroI) 59)).alloc (.cells #[.int .u8 (a : Nat), .int .u8 0, .int .u8 0, .int .u8 0] 5)) from ((Keep.refl w).alloc _).alloc _)
  have HB1 := Lib.hid (fun w => build_way (fourP a) (fourP_len a) m w)
  have HB2 := Lib.hid (fun w => build_inc k (rA a m) w)
  rw [show (⟨fourP a, m, 0, fourP_len a⟩ : Rt) = rA a m from rfl] at HB1
  clear hA hn hn2 hi hi1 hbk
  have HFL := Lib.hid (fourP_len a)
  generalize hX : (⟨k, rA a m⟩ : Ic) = X at *
  generalize rA a m = Y at *
  generalize fourP a = p at *
  go_enter Tryz.func21, Tryz.ntmps21
  go_wp2_with fail
  refine (HM.out _).mono ?_
  rintro e w1 ⟨rfl, b1⟩
  have HA1 := Lib.hid (show IAt w1 w.heap.size zeroI from b1.obj (alloc_old HA.out _))
  have HK1 := Lib.hid (HK.out.trans b1)
  have hge : w.heap.size ≤ w1.heap.size := HK1.out.size
  have hne : w.heap.size ≠ w1.heap.size := by have := block_lt HA1.out; omega
  have hB := (one_at w1 zeroP zeroP_len).1
  have hst := hB.store p HFL.out
  have HB2' := Lib.hid (hB.put p HFL.out)
  have hld := HB2'.out.whole HN2.out
  have HA2 := Lib.hid (show IAt ((w1.alloc (.cells (pc zeroP) 54)).setRow w1.heap.size (pc p)) w.heap.size zeroI from setRow_old (alloc_old HA1.out _) _ _ hne)
  have hst2 := HA2.out.store X
  have hl2 := (HA2.out.put X).whole HN.out
  have HK3 := Lib.hid (((HK1.out.alloc (.cells (pc zeroP) 54)).setRow w1.heap.size (pc p) hge).setRow w.heap.size (ic X) (Nat.le_refl _))
  clear b1 hB hcv HA HK HA1 HK1
  generalize pc p = T at *
  go_wp2_with (first | ((with_reducible refine at_build (t := 57) [(0, .agg T), (1, .int .i64 m)] ?_ (.agg (rc Y)) ?_ ?_); rfl; exact HB1.out _) | ((with_reducible refine at_build (t := 59) [(0, .int .i64 k), (1, .agg (rc Y))] ?_ (.agg (ic X)) ?_ ?_); rfl; exact HB2.out _))
  refine bodyPost_ret (v := .agg (ic X)) ?_ rfl ⟨rfl, HK3.out⟩
  simp [results, Tryz.results21, go_sem, hsz, hl2]

theorem slice_inc2 (r s : Ic) (w : World) : (Instr.buildSlice 22 2 #[(0, .agg (ic r)), (1, .agg (ic s))]).run Tryz.prog w = .ok (.slice (some ⟨w.heap.size, 0, none⟩) 2 2) (w.alloc (.cells (flat il [r, s]).toArray 59)) := by
  obtain ⟨it, hi, hz, hs, _⟩ := info_all 59 _ _ _ info43
  refine run_buildSlice w 22 59 2 _ _ it _ (by kernel_rfl) hi hz (by rw [hs]; omega) (by rw [hs]; omega) ?_
  rw [hs]
  have hr := ic_size r
  have hs2 := ic_size s
  rw [fill_one _ _ 0 0 _ _ (by simp [Value.cells, hr]) (by rw [base_size]; simp [Value.cells, hr])]
  simp only [Value.cells, hr, List.take_zero, List.nil_append, Nat.zero_add]
  generalize hB : ((Array.range (2 * 21)).map fun x => (ic zeroI)[x % (ic zeroI).size]!).toList.drop 21 = B
  have hBl : B.length = 21 := by rw [← hB]; simp
  rw [fill_one _ _ 1 21 _ _ (by simp [Value.cells, hs2]) (by simp [Value.cells, hr, hs2, hBl])]
  rw [Instr.fill]
  simp only [Value.cells, hs2]
  rw [List.take_left' (by simp [hr]), List.drop_of_length_le (by simp [hr, hBl])]
  simp [flat, ic]
theorem Row.inc2 (w : World) (r s : Ic) : Row il 59 (w.alloc (.cells (flat il [r, s]).toArray 59)) (.slice (some ⟨w.heap.size, 0, none⟩) 2 2) [r, s] := by
  have hb : (w.alloc (.cells (flat il [r, s]).toArray 59)).heap[w.heap.size]? = some (.cells (flat il [r, s]).toArray 59 (0, 0)) := heap_alloc_last w _
  refine ⟨.inr ⟨w.heap.size, 0, 2, rfl, Nat.le_refl _, by simp [maxLen], block_lt hb, fun j u hj => ?_⟩, fun g hg => ?_⟩
  · exact cell_obj hb (by rw [Nat.zero_add]; simpa using hj)
  · simp [Value.ownBlock] at hg
    subst hg
    exact ⟨_, _, hb⟩

/-! ### The first line's rows -/
def iA (k : Int) (a : Nat) (m : Int) : Ic := ⟨k, rA a m⟩
theorem n12 : fourP 1 ≠ fourP 2 := by decide
def row1 : List Ic := [iA 1 5 3, iA 3 5 0]
theorem right1 (k : Int) (a : Nat) (m : Int) (hk : k = 1 ∨ k = 2) (h0 : 0 ≤ m) (h1 : m < 65535) : rightI (iA k a m) := .inl ⟨hk, rA_right a m h0 h1⟩
theorem row1_right : ∀ i ∈ row1, rightI i := by
  intro i hi
  simp [row1] at hi
  rcases hi with rfl | rfl
  · exact right1 1 5 3 (.inl rfl) (by omega) (by omega)
  · exact .inr ⟨rfl, fourP_right 5, rfl⟩
theorem row1_sq : ∀ i ∈ row1, SqI i := by
  intro i hi
  simp [row1] at hi
  rcases hi with rfl | rfl <;> exact ⟨by show (0 : Int) ≤ 0; omega, by show (0 : Int) < 4294967296; omega⟩
theorem bytes5 : bytesL (fourP 5) = [8, 5] := by decide
theorem row1_bytes : rowB row1 = [2, 1, 8, 5, 3, 0, 3, 8, 5] := by
  simp [rowB, rowsB, row1, chB, iA, rA, bytes5, V.enc_lt]
theorem row1_print : printI row1 = ([2, 1, 8, 5, 3, 0, 3, 8, 5], 0) := by
  unfold printI
  rw [if_pos row1_right, if_neg (by simp [row1]), row1_bytes]
theorem row1_read : readI [2, 1, 8, 5, 3, 0, 3, 8, 5] = .ok row1 := by
  rw [← row1_bytes]
  exact row_back row1_right row1_sq (by simp [row1])
theorem putL_nil (r : Rt) : putL [] r = [r] := by simp [putL, rank_nil, hasP]
theorem do_first (r : Rt) (h : rightR r) : doS [] 1 r = ([r], 0) := by
  rw [do_add h rfl, if_neg (by simp), putL_nil]
theorem fold1 : foldS [] row1 0 = ([], 2, 0) := by
  have h1 : doS [] 1 (rA 5 3) = ([rA 5 3], 0) := do_first _ (rA_right 5 3 (by omega) (by omega))
  have h2 : doS [rA 5 3] 3 (rA 5 0) = ([], 0) := by
    have := do_wd (t := [rA 5 3]) (a := rA 5 3) (rA_right 5 3 (by omega) (by omega)) (by simp [hasP])
    rw [show wd (rA 5 3) = rA 5 0 from rfl] at this
    rw [this]
    have h3 := cut_old (A := []) (B := []) (y := rA 5 3) (by simp) (by simp)
    simp at h3
    rw [h3]
  simp [foldS, row1, iA, h1, h2]
def row2 : List Ic := [iA 1 1 1, iA 2 2 2]
theorem fold2 : foldS [] row2 0 = ([rA 1 1], 1, 8) := by
  have h1 : doS [] 1 (rA 1 1) = ([rA 1 1], 0) := do_first _ (rA_right 1 1 (by omega) (by omega))
  have h2 : doS [rA 1 1] 2 (rA 2 2) = ([rA 1 1], 8) := by
    unfold doS
    rw [if_neg (by decide), if_pos rfl, if_pos (rA_right 2 2 (by omega) (by omega)), if_neg (by simp [hasP, rA, n12])]
  simp [foldS, row2, iA, h1, h2]
theorem mg1 : mg ([iA 1 1 1] ++ [iA 2 1 2]) = some [⟨false, iA 2 1 2⟩] := by
  unfold mg
  rw [if_pos]
  · simp [storS, stepS, findS, setS, Sy.to, Sy.is, iA, rA]
  · intro i hi
    simp at hi
    rcases hi with rfl | rfl
    · exact right1 1 1 1 (.inl rfl) (by omega) (by omega)
    · exact right1 2 1 2 (.inr rfl) (by omega) (by omega)
theorem mg1_is {m : List Ic} (h : IsMg [⟨false, iA 2 1 2⟩] m) : m = [iA 1 1 2] := by
  have := h.perm
  rw [show [(⟨false, iA 2 1 2⟩ : Sy)].filterMap effS = [iA 1 1 2] from by simp [effS, Sy.is, iA]] at this
  exact List.perm_singleton.1 this
theorem mg2 : mg (row1 ++ []) = some [⟨false, iA 3 5 0⟩] := by
  unfold mg
  rw [List.append_nil, if_pos row1_right]
  simp [row1, storS, stepS, findS, setS, Sy.to, Sy.is, iA, rA]
theorem mg2_is {m : List Ic} (h : IsMg [⟨false, iA 3 5 0⟩] m) : m = [] := by
  have := h.perm
  rw [show [(⟨false, iA 3 5 0⟩ : Sy)].filterMap effS = [] from by simp [effS, Sy.is, iA]] at this
  exact List.perm_nil.1 this
theorem mg3 : mg ([iA 1 1 1] ++ [iA 1 1 1]) = none := by
  unfold mg
  split
  · simp [storS, stepS, findS, setS, Sy.to, Sy.is, iA, rA]
  · rfl
theorem new_nil : newE [] = 0 := by
  unfold newE
  simp
theorem new_of (v : Value) (l ls : List Rt) (w : World) (h : Cells rl w v l) (hl : l.length ≤ 1000000) (h0 : newE l = 0) (hs : Sorted ls) (hp : ls.Perm l) :
    Calls Tryz.prog 13 #[v] w fun e w' => ∃ b, e = .returned (.tuple #[.pointer (some ⟨b, 0, none⟩), .int .i64 0]) ∧ w.heap.size ≤ b ∧ Tb w' b ls ∧ Keep w w' := by
  refine (new v l w h hl).mono ?_
  rintro e w' ⟨p, rfl, hk, ⟨h1, _⟩ | ⟨_, b, l', rfl, hb, hp', ht⟩⟩
  · exact absurd h0 h1
  · rw [sorted_unique hs ht.sorted (hp.trans hp'.symm), h0]
    exact ⟨b, rfl, hb, ht, hk⟩
/-- Merge, where it answers a row. -/
theorem imerge_ok {u v : Value} {a b : List Ic} {w : World} (hu : Cells il w u a) (hv : Cells il w v b) (hl : a.length + b.length ≤ 100000) {W : List Sy} (h : mg (a ++ b) = some W) :
    Calls Tryz.prog 18 #[u, v] w fun e w' => ∃ z m, e = .returned (.tuple #[z, .int .i64 0]) ∧ Row il 59 w' z m ∧ IsMg W m ∧ Keep w w' := by
  have h1 := imerge u v a b w hu hv hl
  rw [h] at h1
  refine h1.mono ?_
  rintro e w' ⟨k, z, m, h2, h3, h4⟩
  exact ⟨z, m, h2, h3, h4, k⟩
theorem imerge_no {u v : Value} {a b : List Ic} {w : World} (hu : Cells il w u a) (hv : Cells il w v b) (hl : a.length + b.length ≤ 100000) (h : mg (a ++ b) = none) :
    Calls Tryz.prog 18 #[u, v] w fun e w' => e = .returned (.tuple #[.slice none 0 0, .int .i64 1]) ∧ Keep w w' := by
  have h1 := imerge u v a b w hu hv hl
  rw [h] at h1
  exact h1.mono fun e w' ⟨k, h2⟩ => ⟨h2, k⟩
theorem ifold_ok {b : Nat} {t t' : List Rt} {v : Value} {l : List Ic} {n : Nat} {w : World} (ht : Tb w b t) (h : Ls w v l) (hl : l.length ≤ 1000000) (hf : foldS t l 0 = (t', n, 0)) :
    Calls Tryz.prog 15 #[.pointer (some ⟨b, 0, none⟩), v] w fun e w' => ∃ c, e = .returned (.tuple #[.pointer (some ⟨c, 0, none⟩), .int .i64 (l.length : Nat), .int .i64 0]) ∧ w.heap.size ≤ c ∧ Tb w' c t' ∧ Keep w w' := by
  have h1 := ifold b t v l w ht h hl
  rw [hf] at h1
  refine h1.mono ?_
  rintro e w' ⟨k, ⟨_, c, h2, h3, h4⟩ | ⟨h2, _⟩⟩
  · exact ⟨c, h2, h3, h4, k⟩
  · exact absurd rfl h2
theorem ifold_no {b : Nat} {t t' : List Rt} {v : Value} {l : List Ic} {n : Nat} {x : Int} {w : World} (ht : Tb w b t) (h : Ls w v l) (hl : l.length ≤ 1000000) (hf : foldS t l 0 = (t', n, x)) (hx : x ≠ 0) :
    Calls Tryz.prog 15 #[.pointer (some ⟨b, 0, none⟩), v] w fun e w' => e = .returned (.tuple #[.pointer none, .int .i64 (n : Nat), .int .i64 x]) ∧ Keep w w' := by
  have h1 := ifold b t v l w ht h hl
  rw [hf] at h1
  refine h1.mono ?_
  rintro e w' ⟨k, ⟨h2, _⟩ | ⟨_, h2⟩⟩
  · exact absurd h2 hx
  · exact ⟨h2, k⟩
theorem iread_ok {s : List UInt8} {l : List Ic} (w : World) (hs : s.length ≤ 1000000) (h : readI s = .ok l) : Calls Tryz.prog 10 #[.string ⟨s.toArray⟩] w fun e w' => ∃ v, e = .returned (.tuple #[v, .int .i64 0]) ∧ Own 59 21 il w.heap.size w' v l ∧ Keep w w' := by
  have h1 := iread s w hs
  rw [h] at h1
  exact h1
end Go.Proofs.YtgkgpdlakamgiaaGreat
