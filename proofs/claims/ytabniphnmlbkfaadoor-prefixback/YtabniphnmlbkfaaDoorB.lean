/- Proved: what Make of prefix answers. Condition: numbers fit; the text's length fits. -/
import Derived.Test.YtabniphnmlbkfaaDoorM
import Derived.Lib.BufferWrite
namespace Go.Proofs.YtabniphnmlbkfaaDoor
open Go.RowKit

def zl : List UInt8 := List.replicate 16 0
def zeroP : Px := ⟨false, zl, 0⟩
theorem info24 : (Tryd.prog.info? 24).map (fun i => (i.zero, i.size)) = some (some (.agg (pc zeroP)), 18) := by kernel_rfl
theorem info22z : (Tryd.prog.info? 22).map (fun i => (i.zero, i.size)) = some (some (.agg (ac zl)), 16) := by kernel_rfl
def makeP (s : Bool) (l : List UInt8) (n : Int) : Option Px := if l.length = sizeN s ∧ fitsB s n then some ⟨s, cutL (padL l) n.toNat, n⟩ else none

theorem list16 (l : List UInt8) (h : l.length = 16) : ∃ c0 c1 c2 c3 c4 c5 c6 c7 c8 c9 c10 c11 c12 c13 c14 c15, l = [c0, c1, c2, c3, c4, c5, c6, c7, c8, c9, c10, c11, c12, c13, c14, c15] := by
  match l, h with
  | [c0, c1, c2, c3, c4, c5, c6, c7, c8, c9, c10, c11, c12, c13, c14, c15], _ => exact ⟨c0, c1, c2, c3, c4, c5, c6, c7, c8, c9, c10, c11, c12, c13, c14, c15, rfl⟩
theorem set_seg (L xs : List Value) (i : Nat) (x : Value) (h : i < L.length) : (L.set i x).take (i + 1) ++ xs ++ (L.set i x).drop (i + 1 + xs.length) = L.take i ++ (x :: xs) ++ L.drop (i + (x :: xs).length) := by
  rw [List.drop_set_of_lt (by omega), List.take_add_one, List.take_set_of_le (Nat.le_refl i)]
  simp [h, Nat.add_assoc, Nat.add_comm 1]
theorem fold_sets (o : Nat) : ∀ (xs : List Value) (k : Nat) (A : Array Value), o + k + xs.length ≤ A.size → (xs.zipIdx k).foldl (fun cs x => cs.setIfInBounds (o + x.snd) x.fst) A = (A.toList.take (o + k) ++ xs ++ A.toList.drop (o + k + xs.length)).toArray
  | [], k, A, _ => by simp
  | x :: xs, k, A, h => by
    have h2 : o + k < A.size := by simp at h; omega
    rw [List.zipIdx_cons, List.foldl_cons, fold_sets o xs (k + 1) _ (by simp at h ⊢; omega)]
    apply Array.ext'
    simp only [Array.toList_setIfInBounds]
    exact set_seg A.toList xs (o + k) x (by simpa using h2)
theorem fold_addr (p : Px) (l : List UInt8) (h : p.addr.length = 16) (hl : l.length = 16) : Array.foldl (fun cs x => cs.setIfInBounds (1 + x.snd) x.fst) (pc p) (ac l).zipIdx 0 (ac l).size = pc ⟨p.six, l, p.len⟩ := by
  rw [show (ac l).size = (ac l).zipIdx.size by simp, ← Array.foldl_toList, Array.toList_zipIdx]
  rw [fold_sets 1 (ac l).toList 0 (pc p) (by rw [pc_size p h]; simp [ac, hl])]
  unfold pc ac
  refine congrArg _ ?_
  simp only
  simp [hl, h]
theorem set_six (p : Px) (s : Bool) : (pc p).setIfInBounds 0 (.bool s) = pc ⟨s, p.addr, p.len⟩ := by
  simp [pc]
theorem set_len (p : Px) (h : p.addr.length = 16) (n : Int) : (pc p).setIfInBounds 17 (.int .i64 n) = pc ⟨p.six, p.addr, n⟩ := by
  obtain ⟨s, a, m⟩ := p
  obtain ⟨c0, c1, c2, c3, c4, c5, c6, c7, c8, c9, c10, c11, c12, c13, c14, c15, rfl⟩ := list16 a h
  rfl
theorem pc_one (p : Px) : ∀ v ∈ (pc p).toList, v.oneCell' = true := by
  intro v hv
  simp only [pc, List.mem_cons, List.mem_append, List.mem_map] at hv
  rcases hv with rfl | ⟨c, _, rfl⟩ | hv
  · rfl
  · rfl
  · simp at hv
    rw [hv]
    rfl
theorem zeroP_len : zeroP.addr.length = 16 := rfl
/-- A prefix is stored over another. -/
theorem At.store {w : World} {b : Nat} {z : Px} (h : At w b z) (p : Px) (hp : p.addr.length = 16) : (storeCells ⟨b, 0, none⟩ (pc p).toList).run Tryd.prog w = .ok () (w.setRow b (pc p)) := by
  have hsc := run_storeCells_from (P := Tryd.prog) b 24 (pc p).toList 0 (pc z) w h.block (by rw [pc_size z h.len]; simp [pc_size p hp]) (pc_one p)
  rw [List.take_zero, List.nil_append, Array.toArray_toList] at hsc
  exact hsc
theorem At.put {w : World} {b : Nat} {z : Px} (h : At w b z) (p : Px) (hp : p.addr.length = 16) : At (w.setRow b (pc p)) b p := ⟨block_row h.block _, hp⟩

set_option maxRecDepth 100000 in
theorem make_no (s : Bool) (l : List UInt8) (n : Int) (_hl : l.length ≤ 9223372036854775807) (hm : makeP s l n = none) : Gives Tryd.prog 26 #[.bool s, .string ⟨l.toArray⟩, .int .i64 n] (.tuple #[.agg (pc zeroP), .int .i64 1]) := by
  intro w
  obtain ⟨hz, hi⟩ := zero_of_info info24
  have HSi := Lib.hid (size_at s)
  have HF := Lib.hid (fits_at s n)
  have hle := sizeN_le s
  obtain ⟨hA, hS⟩ := one_at w zeroP zeroP_len
  obtain ⟨n2, hn2⟩ : ∃ n, n = 18 := ⟨18, rfl⟩
  have hsz2 : ∀ w, (Go.sizeOf 24).run Tryd.prog w = .ok n2 w := fun w => by rw [hn2]; exact Tryd.sizeOf24 w
  have hzs : (pc zeroP).size = n2 := by rw [hn2]; exact pc_size _ rfl
  have HA := Lib.hid hA
  have HS := Lib.hid hS
  have HN2 := Lib.hid hn2
  clear hA hS hn2 hi
  by_cases h1 : l.length = sizeN s
  · have h2 : fitsB s n = false := by
      rcases h : fitsB s n
      · rfl
      · rw [makeP, if_pos ⟨h1, h⟩] at hm
        cases hm
    rw [h2] at HF
    go_enter Tryd.func26, Tryd.ntmps26
    go_wp2_with fail
    refine (HSi.out _).mono ?_
    rintro e w1 ⟨rfl, b1⟩
    go_wp2_with fail
    refine (HF.out _).mono ?_
    rintro e w2 ⟨rfl, b2⟩
    have hA2 := HA.out.mono (b1.trans b2)
    have hst := hA2.store zeroP rfl
    have hld := (hA2.put zeroP rfl).whole HN2.out
    go_wp2
    refine bodyPost_ret (v := .tuple #[.agg (pc zeroP), .int .i64 1]) ?_ rfl ⟨rfl, ((HS.out.trans b1).trans b2).setRow _ _ (Nat.le_refl _)⟩
    simp [results, Tryd.results26, go_sem, hsz2, hld]
  · go_enter Tryd.func26, Tryd.ntmps26
    go_wp2_with fail
    refine (HSi.out _).mono ?_
    rintro e w1 ⟨rfl, b1⟩
    have hA2 := HA.out.mono b1
    have hst := hA2.store zeroP rfl
    have hld := (hA2.put zeroP rfl).whole HN2.out
    go_wp2
    refine bodyPost_ret (v := .tuple #[.agg (pc zeroP), .int .i64 1]) ?_ rfl ⟨rfl, (HS.out.trans b1).setRow _ _ (Nat.le_refl _)⟩
    simp [results, Tryd.results26, go_sem, hsz2, hld]

theorem makeP_some {s : Bool} {l : List UInt8} {n : Int} {p : Px} (hm : makeP s l n = some p) : l.length = sizeN s ∧ fitsB s n = true ∧ p = ⟨s, cutL (padL l) n.toNat, n⟩ := by
  by_cases h : l.length = sizeN s ∧ fitsB s n = true
  · rw [makeP, if_pos h] at hm
    exact ⟨h.1, h.2, (Option.some.inj hm).symm⟩
  · rw [makeP, if_neg h] at hm
    cases hm
theorem copy_text (w : World) (g : Nat) (l : List UInt8) (hl : l.length ≤ 16) (hg : w.heap[g]? = some (.cells (ac zl) 22 (0, 0))) :
    (Builtin.copy_ #[53, 9] 3 #[.slice (some ⟨g, 0, none⟩) 16 16, .string ⟨l.toArray⟩]).run Tryd.prog w = .ok (.int .i64 l.length) (w.setRow g (ac (padL l))) := by
  have hs : (⟨l.toArray⟩ : ByteArray).size = l.length := by simp [ByteArray.size]
  have h := Lib.run_copy_row_string (P := Tryd.prog) w 53 9 3 5 g 0 16 16 ⟨l.toArray⟩ (ac (List.replicate 16 0)) 22 Tryd.underlying53 info5 hg (by omega) (by rw [ac_size, hs]; simp; omega)
  rw [h, hs]
  have e : ((ac (List.replicate 16 0)).toList.take 0 ++ Lib.byteCells (⟨l.toArray⟩ : ByteArray).data.toList ++ (ac (List.replicate 16 0)).toList.drop (0 + l.length)).toArray = ac (padL l) := by
    unfold ac padL
    refine congrArg _ ?_
    have e2 : List.map bv (List.take 16 (l ++ List.replicate 16 0)) = List.take 16 (List.map bv l ++ List.map bv (List.replicate 16 0)) := by rw [List.map_take, List.map_append]
    have e3 : Lib.byteCells (⟨l.toArray⟩ : ByteArray).data.toList = List.map bv l := rfl
    rw [e2, e3]
    simp only
    have hlen : (List.map bv l).length = l.length := by simp
    generalize List.map bv l = M at *
    rw [List.map_replicate, List.take_zero, List.nil_append, Nat.zero_add, List.drop_replicate, List.take_append, List.take_of_length_le (by omega), hlen, List.take_replicate, Nat.min_eq_left (by omega)]
  rw [e]
  rfl

set_option maxRecDepth 100000 in
theorem make_ok (s : Bool) (l : List UInt8) (n : Int) (p : Px) (hm : makeP s l n = some p) : Gives Tryd.prog 26 #[.bool s, .string ⟨l.toArray⟩, .int .i64 n] (.tuple #[.agg (pc p), .int .i64 0]) := by
  intro w
  obtain ⟨hz, hi⟩ := zero_of_info info24
  obtain ⟨hz2, hi2⟩ := zero_of_info info22z
  have HSi := Lib.hid (size_at s)
  have HF := Lib.hid (fits_at s n)
  have hle := sizeN_le s
  obtain ⟨h1, h2, hp⟩ := makeP_some hm
  have hp16 : p.addr.length = 16 := by rw [hp]; exact cutL_len _ _
  rw [h2] at HF
  obtain ⟨k, rfl⟩ : ∃ k : Nat, n = k := ⟨n.toNat, by simp [fitsB] at h2; omega⟩
  have hk : k ≤ 128 := by simp [fitsB] at h2; omega
  have Hcu := Lib.hid (cut_at (padL l) (padL_len _) k hk)
  obtain ⟨hA, hS⟩ := one_at w zeroP zeroP_len
  obtain ⟨n2, hn2⟩ : ∃ n, n = 18 := ⟨18, rfl⟩
  have hsz2 : ∀ w, (Go.sizeOf 24).run Tryd.prog w = .ok n2 w := fun w => by rw [hn2]; exact Tryd.sizeOf24 w
  obtain ⟨n1, hn1⟩ : ∃ n, n = 16 := ⟨16, rfl⟩
  have hsz1 : ∀ w, (Go.sizeOf 22).run Tryd.prog w = .ok n1 w := fun w => by rw [hn1]; exact Tryd.sizeOf22 w
  have hzs : (pc p).size = n2 := by rw [hn2]; exact pc_size _ hp16
  have HA := Lib.hid hA
  have HS := Lib.hid hS
  have HN2 := Lib.hid hn2
  have HN1 := Lib.hid hn1
  have HP := Lib.hid hp
  clear hA hS hn2 hn1 hi hi2 hp
  go_enter Tryd.func26, Tryd.ntmps26
  go_wp2_with fail
  refine (HSi.out _).mono ?_
  rintro e w1 ⟨rfl, b1⟩
  go_wp2_with fail
  refine (HF.out _).mono ?_
  rintro e w2 ⟨rfl, b2⟩
  have b12 := b1.trans b2
  have hA2 := HA.out.mono (b12.alloc (.cells (ac zl) 22))
  have hcp := copy_text (w2.alloc (.cells (ac zl) 22)) w2.heap.size l (by omega) (heap_alloc_last _ _)
  have hb2 := block_row (heap_alloc_last w2 (.cells (ac zl) 22)) (ac (padL l))
  have hl2 := load_block (P := Tryd.prog) n1 (by rw [ac_size, padL_len, HN1.out]) hb2
  have hlt : w.heap.size ≠ w2.heap.size := by
    have := b12.size
    have h : (w.alloc (.cells (pc zeroP) 24)).heap.size = w.heap.size + 1 := by simp
    omega
  have HA3 := Lib.hid (show At ((w2.alloc (.cells (ac zl) 22)).setRow w2.heap.size (ac (padL l))) w.heap.size zeroP from ⟨setRow_old hA2.block _ _ hlt, rfl⟩)
  have HS3 := Lib.hid (((HS.out.trans b12).alloc (.cells (ac zl) 22)).setRow w2.heap.size (ac (padL l)) (HS.out.trans b12).size)
  clear hA2 hb2 b12 b1 b2 HA HS
  go_wp2_with fail
  refine (Hcu.out _).mono ?_
  rintro e w4 ⟨rfl, b4⟩
  have hA4 := HA3.out.mono b4
  have hst := hA4.store p hp16
  have hld := (hA4.put p hp16).whole HN2.out
  have hac : (ac (cutL (padL l) k)).size = n1 := by rw [ac_size, cutL_len, HN1.out]
  have z1 : (pc zeroP).size = 18 := pc_size _ rfl
  have z2 : (pc ⟨s, zeroP.addr, zeroP.len⟩).size = 18 := pc_size _ rfl
  have z3 : (pc ⟨s, cutL (padL l) k, zeroP.len⟩).size = 18 := pc_size _ (cutL_len _ _)
  have hn17 : ¬ 18 < 1 + n1 := by rw [HN1.out]; omega
  have hne : pc zeroP ≠ #[] := by intro h; rw [h] at z1; simp at z1
  have f1 := set_six zeroP s
  have f2 := fold_addr ⟨s, zeroP.addr, zeroP.len⟩ (cutL (padL l) k) rfl (cutL_len _ _)
  have f3 := set_len ⟨s, cutL (padL l) k, zeroP.len⟩ (cutL_len _ _) k
  have f4 : (pc ⟨s, cutL (padL l) k, zeroP.len⟩).toList.set 17 (.int .i64 k) = (pc p).toList := by
    rw [← Array.toList_setIfInBounds, f3, HP.out]
    rfl
  rw [show (⟨s, cutL (padL l) k, (k : Int)⟩ : Px) = p by rw [HP.out]; rfl] at f3
  rw [hac] at f2
  simp only at f2
  go_wp2
  refine bodyPost_ret (v := .tuple #[.agg (pc p), .int .i64 0]) ?_ rfl ⟨rfl, (HS3.out.trans b4).setRow _ _ (Nat.le_refl _)⟩
  simp [results, Tryd.results26, go_sem, hsz2, hld]
end Go.Proofs.YtabniphnmlbkfaaDoor
