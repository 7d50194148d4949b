/- Proved: what prefix's cut and Right answer. Condition: an address has sixteen bytes. -/
import Derived.Test.YtgocmolebanflaaR
import Derived.Deep.RegionWith
import Derived.Laws.CopyRow
namespace Go.Proofs.Ytgocmolebanflaa
open Go.RowKit

theorem info22 : (Try.prog.info? 23).map (fun i => (i.zero, i.size)) = some (some (.agg (Array.replicate 16 (.int .u8 0))), 16) := by kernel_rfl
theorem ac_zero : Array.replicate 16 (Value.int .u8 0) = ac (List.replicate 16 0) := by rfl

theorem cut16 (b m : Nat) (h : m ≤ 16) (w : World) : (Instr.sliceAt 23 (.pointer (some ⟨b, 0, none⟩)) none (some (.int .i64 m)) none).run Try.prog w = .ok (.slice (some ⟨b, 0, none⟩) m 16) w := by
  have hn : Try.prog.arrayLen 23 = 16 := by kernel_rfl
  have he : Try.prog.elem 23 = 5 := by kernel_rfl
  have := run_sliceAt_array_h (P := Try.prog) w 23 ⟨b, 0, none⟩ (by kernel_rfl) .i64 (m : Int) (by omega) (by omega)
  rw [this, he, Try.sizeOf5 w]
  simp [slicedAt, hn, Addr.add]
theorem info5 : (Try.prog.info? 5).map (·.size) = some 1 := by kernel_rfl
theorem ac_one (l : List UInt8) : ∀ v ∈ (ac l).toList, v.oneCell' = true := by
  intro v hv
  simp only [ac, List.mem_map] at hv
  obtain ⟨c, _, rfl⟩ := hv
  rfl
theorem ac_size (l : List UInt8) : (ac l).size = l.length := by simp [ac]
/-- 'copy(a[:], b[:m])' of two arrays. -/
theorem copy16 (w : World) (g b m : Nat) (l : List UInt8) (hl : l.length = 16) (hm : m ≤ 16) (hg : w.heap[g]? = some (.cells (ac (List.replicate 16 0)) 23 (0, 0))) (hb : w.heap[b]? = some (.cells (ac l) 23 (0, 0))) :
    (Builtin.copy_ #[84, 84] 3 #[.slice (some ⟨g, 0, none⟩) 16 16, .slice (some ⟨b, 0, none⟩) m 16]).run Try.prog w = .ok (.int .i64 m) (w.setRow g (ac (padL (l.take m)))) := by
  have hlen : ((l.take m).map bv).length = m := by simp; omega
  have h := run_copy_row (P := Try.prog) w 84 84 3 5 g 0 16 16 ⟨b, 0, none⟩ m 16 (ac (List.replicate 16 0)) 23 ((l.take m).map bv) Try.underlying84 info5 hg (by rw [hlen]; exact (Nat.min_eq_left hm).symm)
    (fun j v hv => by
      have hadd : (⟨b, 0, none⟩ : Addr).add j = ⟨b, j, none⟩ := by unfold Addr.add; split <;> simp_all
      rw [hadd]
      refine cell_obj hb ?_
      have hj : j < m := by have := (List.getElem?_eq_some_iff.1 hv).1; omega
      rw [← hv]
      simp [ac, hj]) (by rw [hlen, ac_size]; simp; omega) (fun v hv => by
      simp only [List.mem_map] at hv
      obtain ⟨c, _, rfl⟩ := hv
      rfl)
  rw [h, hlen]
  have e : ((ac (List.replicate 16 0)).toList.take 0 ++ (l.take m).map bv ++ (ac (List.replicate 16 0)).toList.drop (0 + m)).toArray = ac (padL (l.take m)) := by
    have hr : bv 0 = Value.int .u8 0 := rfl
    unfold ac padL
    refine congrArg _ ?_
    have e2 : List.map bv (List.take 16 (List.take m l ++ List.replicate 16 0)) = List.take 16 (List.map bv (List.take m l) ++ List.map bv (List.replicate 16 0)) := by rw [List.map_take (i := 16), List.map_append]
    rw [e2]
    simp only
    generalize hM : List.map bv (List.take m l) = M at *
    rw [List.map_replicate, List.take_zero, List.nil_append, Nat.zero_add, List.drop_replicate, List.take_append, List.take_of_length_le (by omega), hlen, List.take_replicate, Nat.min_eq_left (by omega)]
  rw [e]
  rfl
theorem block_set {w : World} {b : Nat} {c : Array Value} {t : TypeId} {fz : Nat × Nat} (h : w.heap[b]? = some (.cells c t fz)) (i : Nat) (v : Value) : (w.setCell ⟨b, i, none⟩ v).heap[b]? = some (.cells (c.setIfInBounds i v) t fz) := by
  simp only [World.setCell, Array.getElem?_modify, if_true, h, Option.map_some]
  rfl
theorem block_row {w : World} {b : Nat} {c : Array Value} {t : TypeId} {fz : Nat × Nat} (h : w.heap[b]? = some (.cells c t fz)) (c' : Array Value) : (w.setRow b c').heap[b]? = some (.cells c' t fz) := by
  simp only [World.setRow, Array.getElem?_modify, if_true, h, Option.map_some]
theorem setRow_old {w : World} {b : Nat} {o : Obj} (h : w.heap[b]? = some o) (g : Nat) (c : Array Value) (hg : b ≠ g) : (w.setRow g c).heap[b]? = some o := by
  simp only [World.setRow, Array.getElem?_modify]
  rw [if_neg (Ne.symm hg), h]
theorem Same.setCell {w w' : World} (h : Same w w') (b i : Nat) (v : Value) (hb : w.heap.size ≤ b) : Same w (w'.setCell ⟨b, i, none⟩ v) :=
  ⟨⟨h.os, h.tape, h.output, by have := h.size; simpa [World.setCell] using this, fun k hk => (Below.heap_setCell _ _ _ _ (by show k ≠ b; omega)).trans (h.block k hk)⟩, h.drawn⟩
theorem Same.setRow {w w' : World} (h : Same w w') (b : Nat) (c : Array Value) (hb : w.heap.size ≤ b) : Same w (w'.setRow b c) :=
  ⟨⟨h.os, h.tape, h.output, by have := h.size; simpa [World.setRow] using this, fun k hk => by
    rw [← h.block k hk]
    simp only [World.setRow, Array.getElem?_modify]
    rw [if_neg (by omega)]⟩, h.drawn⟩
theorem load_block {P : Program} {w : World} {b : Nat} {c : Array Value} {t : TypeId} {fz : Nat × Nat} (n : Nat) (hn : c.size = n) (h : w.heap[b]? = some (.cells c t fz)) :
    (loadCellsFrom ⟨b, 0, none⟩ 0 n #[]).run P w = .ok c w := by
  have := load_part (P := P) (o := 0) (n := n) c.toList (by simpa using hn) h (fun j v hv => by simpa using hv)
  simpa using this
theorem setCell_old {w : World} {b : Nat} {o : Obj} (h : w.heap[b]? = some o) (g i : Nat) (v : Value) (hg : b ≠ g) : (w.setCell ⟨g, i, none⟩ v).heap[b]? = some o := by
  rw [Below.heap_setCell _ _ _ _ hg, h]
theorem ac_set (l : List UInt8) (i c : Nat) (hc : c < 256) : (ac l).setIfInBounds i (.int .u8 (c : Nat)) = ac (l.set i (UInt8.ofNat c)) := by
  have e : Value.int .u8 (c : Nat) = bv (UInt8.ofNat c) := by unfold bv; rw [UInt8.toNat_ofNat_of_lt' hc]
  rw [e]
  unfold ac
  rw [List.map_set]
  simp
theorem andNot8 (c r : Nat) (hc : c < 256) : bits .andNot .u8 (c : Int) (255 / 2 ^ r) = ((c &&& (255 - 255 / 2 ^ r) : Nat) : Int) := by
  have h := u8_andNot_nat c (255 / 2 ^ r) hc (Nat.lt_of_le_of_lt (Nat.div_le_self _ _) (by omega))
  simpa using h
theorem alloc_old {w : World} {b : Nat} {o : Obj} (h : w.heap[b]? = some o) (o' : Obj) : (w.alloc o').heap[b]? = some o := ((Same.refl w).alloc o').obj h
theorem three_alloc (w : World) (o1 o2 o3 : Obj) : (((w.alloc o1).alloc o2).alloc o3).heap[w.heap.size]? = some o1 ∧ (((w.alloc o1).alloc o2).alloc o3).heap[w.heap.size + 1]? = some o2 ∧ (((w.alloc o1).alloc o2).alloc o3).heap[w.heap.size + 1 + 1]? = some o3 := by
  have hs : (w.alloc o1).heap.size = w.heap.size + 1 := by simp
  have hs2 : ((w.alloc o1).alloc o2).heap.size = w.heap.size + 1 + 1 := by simp
  refine ⟨alloc_old (alloc_old (heap_alloc_last w o1) _) _, ?_, ?_⟩
  · rw [← hs]
    exact alloc_old (heap_alloc_last _ o2) _
  · rw [← hs2]
    exact heap_alloc_last _ o3

set_option maxRecDepth 100000 in
theorem cut_at (l : List UInt8) (hl : l.length = 16) (k : Nat) (hk : k ≤ 128) (w : World) : Calls Try.prog 56 #[.agg (ac l), .int .i64 k] w fun e w' => e = .returned (.agg (ac (cutL l k))) ∧ Same w w' := by
  obtain ⟨hz, hi⟩ := zero_of_info info22
  have Z0 := ac_zero
  have hnd := Lib.hid (need_at k hk)
  have hlt : needN k ≤ 16 := by unfold needN; omega
  have hcp := Lib.hid (fun w g b => copy16 w g b (needN k) l hl hlt)
  have Hcut := Lib.hid (show (cutL l k = if 0 < k % 8 then (padL (l.take (needN k))).set (k / 8) (UInt8.ofNat (((padL (l.take (needN k))).getD (k / 8) 0).toNat &&& (255 - 255 / 2 ^ (k % 8)))) else padL (l.take (needN k))) from rfl)
  generalize cutL l k = C at *
  have hpl := padL_len (l.take (needN k))
  generalize padL (l.take (needN k)) = L at *
  generalize needN k = m at *
  generalize ac (List.replicate 16 0) = Z at *
  generalize ac l = A at *
  have hsl := fun b w => cut16 b m hlt w
  obtain ⟨e0, e1, e2⟩ := three_alloc w (.cells A 23) (.cells Z 23) (.cells Z 23)
  have hc := hcp.out ((((w.alloc (.cells A 23)).alloc (.cells Z 23)).alloc (.cells Z 23)).drew) _ _ e2 e0
  have E1 := Lib.hid e1
  have E2 := Lib.hid e2
  clear e0 e1 e2 hcp
  go_enter Try.func56, Try.ntmps56
  go_wp2_with fail
  go_region_with (go_at_call 71; refine (hnd.out _).mono ?_; rintro e w1 ⟨rfl, rfl⟩)
  have HS := Lib.hid ((((((Same.refl w).alloc (.cells A 23)).alloc (.cells Z 23)).alloc (.cells Z 23)).drew).setRow (w.heap.size + 1 + 1) (ac L) (by omega))
  have F1 := Lib.hid (setRow_old (w := (((w.alloc (.cells A 23)).alloc (.cells Z 23)).alloc (.cells Z 23)).drew) E1.out (w.heap.size + 1 + 1) (ac L) (by omega))
  have F2 := Lib.hid (block_row (w := (((w.alloc (.cells A 23)).alloc (.cells Z 23)).alloc (.cells Z 23)).drew) E2.out (ac L))
  generalize (((w.alloc (.cells A 23)).alloc (.cells Z 23)).alloc (.cells Z 23)).drew.setRow (w.heap.size + 1 + 1) (ac L) = w3 at *
  clear hc E1 E2
  obtain ⟨n, hn⟩ : ∃ n, n = 16 := ⟨16, rfl⟩
  have hsz : ∀ w, (Go.sizeOf 23).run Try.prog w = .ok n w := fun w => by rw [hn]; exact Try.sizeOf23 w
  have hzs : Z.size = n := by rw [← Z0, hn]; simp
  have Hzs := Lib.hid hzs
  have HN := Lib.hid hn
  have HL := Lib.hid hpl
  clear hn hzs hz Z0 hi hpl
  by_cases h8 : 0 < k % 8
  · have hcell := cell_obj F2.out (ac_get L (k / 8) (by rw [HL.out]; omega))
    have hfree : w3.frozen? ⟨w.heap.size + 1 + 1, k / 8, none⟩ = false := by simp [World.frozen?, F2.out]
    have hc : (L[k / 8]'(by rw [HL.out]; omega)).toNat < 256 := (L[k / 8]'(by rw [HL.out]; omega)).toNat_lt
    have hc2 := Lib.hid (show (L.getD (k / 8) 0).toNat = (L[k / 8]'(by rw [HL.out]; omega)).toNat by simp [show k / 8 < L.length by rw [HL.out]; omega])
    generalize (L[k / 8]'(by rw [HL.out]; omega)).toNat = c at *
    have hx := andNot8 c (k % 8) hc
    go_wp2
    go_region
    have G2 := Lib.hid (block_set (w := w3) F2.out (k / 8) (.int .u8 (c &&& (255 - 255 / 2 ^ (k % 8)) : Nat)))
    have G1 := Lib.hid (setCell_old (w := w3) F1.out (w.heap.size + 1 + 1) (k / 8) (.int .u8 (c &&& (255 - 255 / 2 ^ (k % 8)) : Nat)) (by omega))
    have GS := Lib.hid ((HS.out.setCell (w.heap.size + 1 + 1) (k / 8) (.int .u8 (c &&& (255 - 255 / 2 ^ (k % 8)) : Nat)) (by omega)).drew)
    rw [ac_set L (k / 8) _ (Nat.lt_of_le_of_lt Nat.and_le_left hc)] at G2
    have HL2 := Lib.hid (show (L.set (k / 8) (UInt8.ofNat (c &&& (255 - 255 / 2 ^ (k % 8))))).length = 16 by rw [List.length_set]; exact HL.out)
    have HC := Lib.hid (show C = L.set (k / 8) (UInt8.ofNat (c &&& (255 - 255 / 2 ^ (k % 8)))) by rw [Hcut.out, if_pos h8, hc2.out])
    have G1' : (w3.setCell ⟨w.heap.size + 1 + 1, k / 8, none⟩ (.int .u8 (c &&& (255 - 255 / 2 ^ (k % 8)) : Nat))).drew.heap[w.heap.size + 1]? = some (.cells Z 23) := G1.out
    have G2' : (w3.setCell ⟨w.heap.size + 1 + 1, k / 8, none⟩ (.int .u8 (c &&& (255 - 255 / 2 ^ (k % 8)) : Nat))).drew.heap[w.heap.size + 1 + 1]? = some (.cells (ac (L.set (k / 8) (UInt8.ofNat (c &&& (255 - 255 / 2 ^ (k % 8)))))) 23) := G2.out
    clear G1 G2 hcell hfree hx Hcut hc2
    generalize (w3.setCell ⟨w.heap.size + 1 + 1, k / 8, none⟩ (.int .u8 (c &&& (255 - 255 / 2 ^ (k % 8)) : Nat))).drew = w4 at *
    generalize L.set (k / 8) (UInt8.ofNat (c &&& (255 - 255 / 2 ^ (k % 8)))) = L2 at *
    have hac : (ac L2).size = n := by rw [ac_size, HL2.out, HN.out]
    have hld := load_block (P := Try.prog) (w := w4) n hac G2'
    have hsc := run_storeCells_from (P := Try.prog) (w.heap.size + 1) 23 (ac L2).toList 0 Z w4 G1' (by simp [Hzs.out, hac]) (ac_one L2)
    rw [List.take_zero, List.nil_append, Array.toArray_toList] at hsc
    have hl2 := load_block (P := Try.prog) n hac (block_row G1' (ac L2))
    go_wp2
    refine bodyPost_ret (v := .agg (ac L2)) ?_ rfl ⟨?_, GS.out.setRow _ _ (by omega)⟩
    · simp [results, Try.results56, go_sem, hsz, hl2]
    · rw [HC.out]
  · have hac : (ac L).size = n := by rw [ac_size, HL.out, HN.out]
    have hld := load_block (P := Try.prog) (w := w3) n hac F2.out
    have hsc := run_storeCells_from (P := Try.prog) (w.heap.size + 1) 23 (ac L).toList 0 Z w3 F1.out (by simp [Hzs.out, hac]) (ac_one L)
    rw [List.take_zero, List.nil_append, Array.toArray_toList] at hsc
    have hl2 := load_block (P := Try.prog) n hac (block_row F1.out (ac L))
    go_wp2
    refine bodyPost_ret (v := .agg (ac L)) ?_ rfl ⟨?_, HS.out.setRow _ _ (by omega)⟩
    · simp [results, Try.results56, go_sem, hsz, hl2]
    · rw [Hcut.out, if_neg h8]
end Go.Proofs.Ytgocmolebanflaa
