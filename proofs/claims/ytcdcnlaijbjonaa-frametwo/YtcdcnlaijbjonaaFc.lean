/- Proved: what headOf and Print of frame answer. Condition: the frame may be, or its numbers are ints. -/
import Derived.Test.YtcdcnlaijbjonaaFb
namespace Go.Proofs.Ytcdcnlaijbjonaa
open Go.RowKit

/-- Fifteen noughts. -/
def zh : List UInt8 := List.replicate 15 0
theorem zh_len : zh.length = 15 := rfl
theorem infoH : (Try.prog.info? 41).map (fun i => (i.zero, i.size)) = some (some (.agg (ac zh)), 15) := by kernel_rfl
theorem head_puts (a b c d e n : Nat) : put (put (put (put (put (put zh 0 1 a) 1 4 b) 5 4 c) 9 2 d) 11 2 e) 13 2 n = be 1 a ++ (be 4 b ++ (be 4 c ++ (be 2 d ++ (be 2 e ++ be 2 n)))) := rfl
theorem HAt.whole {w : World} {b n : Nat} {h : List UInt8} (q : HAt w b h) (hn : n = 15) : (loadCellsFrom ⟨b, 0, none⟩ 0 n #[]).run Try.prog w = .ok (ac h) w := load_block n (by rw [ac_size, q.len, hn]) q.block
theorem HAt.store {w : World} {b : Nat} {z : List UInt8} (q : HAt w b z) (h : List UInt8) (hl : h.length = 15) : (storeCells ⟨b, 0, none⟩ (ac h).toList).run Try.prog w = .ok () (w.setRow b (ac h)) := by
  have hsc := run_storeCells_from (P := Try.prog) b 41 (ac h).toList 0 (ac z) w q.block (by rw [ac_size, q.len]; simp [ac_size, hl]) (ac_one h)
  rw [List.take_zero, List.nil_append, Array.toArray_toList] at hsc
  exact hsc
theorem HAt.put {w : World} {b : Nat} {z : List UInt8} (q : HAt w b z) (h : List UInt8) (hl : h.length = 15) : HAt (w.setRow b (ac h)) b h := ⟨block_row q.block _, hl⟩
/-- A frame, its head under way, and the answer's place. -/
structure Hd (w0 w : World) (f : Fr) (h : List UInt8) : Prop where
  frame : FAt w w0.heap.size f
  res : HAt w (w0.heap.size + 1) zh
  head : HAt w (w0.heap.size + 2) h
  keep : Keep w0 w
theorem Hd.next {w0 w w' : World} {f : Fr} {h h' : List UInt8} (q : Hd w0 w f h) (a : HAt w' (w0.heap.size + 2) h') (o : Only (w0.heap.size + 2) w w') : Hd w0 w' f h' :=
  ⟨o.obj q.frame (by omega), ⟨o.obj q.res.block (by omega), zh_len⟩, a, Only.made q.keep o (by omega)⟩
theorem hd_new (w : World) (f : Fr) : Hd w (((w.alloc (.cells (fc f) 23)).alloc (.cells (ac zh) 41)).alloc (.cells (ac zh) 41)) f zh := by
  have s1 : (w.alloc (.cells (fc f) 23)).heap.size = w.heap.size + 1 := by simp
  have s2 : ((w.alloc (.cells (fc f) 23)).alloc (.cells (ac zh) 41)).heap.size = w.heap.size + 2 := by simp
  have k1 : ∀ (v : World) (o : Obj), Keep v (v.alloc o) := fun v o => (Keep.refl v).alloc o
  refine ⟨((FAt.new w f).keep (k1 _ _)).keep (k1 _ _), ⟨(k1 _ _).obj ?_, zh_len⟩, ⟨?_, zh_len⟩, ((k1 _ _).trans (k1 _ _)).trans (k1 _ _)⟩
  · rw [← s1]
    exact heap_alloc_last _ _
  · rw [← s2]
    exact heap_alloc_last _ _

set_option maxRecDepth 100000 in
set_option maxHeartbeats 1000000 in
theorem headOf_at (f : Fr) (hr : rightF f) (w : World) : Calls Try.prog 16 #[.agg (fc f)] w fun e w' => e = .returned (.agg (ac (headF f))) ∧ Keep w w' := by
  obtain ⟨kd, s1, s2, s3, s4, d⟩ := f
  obtain ⟨h1, h2, h3, h4, h5, h6⟩ := hr
  simp only at h1 h2 h3 h4 h5 h6
  obtain ⟨kd, rfl⟩ := Int.eq_ofNat_of_zero_le (show 0 ≤ kd by omega)
  obtain ⟨s1, rfl⟩ := Int.eq_ofNat_of_zero_le h2.1
  obtain ⟨s2, rfl⟩ := Int.eq_ofNat_of_zero_le h3.1
  obtain ⟨s3, rfl⟩ := Int.eq_ofNat_of_zero_le h4.1
  obtain ⟨s4, rfl⟩ := Int.eq_ofNat_of_zero_le h5.1
  obtain ⟨hz, _⟩ := zero_of_info infoH
  obtain ⟨n, hn⟩ : ∃ n, n = 15 := ⟨15, rfl⟩
  have hsz : ∀ w, (Go.sizeOf 41).run Try.prog w = .ok n w := fun w => by rw [hn]; exact Try.sizeOf41 w
  have hn0 : ¬ n = 0 := by omega
  have HH := Lib.hid (hd_new w ⟨kd, s1, s2, s3, s4, d⟩)
  have HP := Lib.hid (head_puts kd s1 s2 s3 s4 d.length)
  have B1 := Lib.hid (show kd < 4294967296 by omega)
  have B2 := Lib.hid (show s1 < 4294967296 by omega)
  have B3 := Lib.hid (show s2 < 4294967296 by omega)
  have B4 := Lib.hid (show s3 < 4294967296 by omega)
  have B5 := Lib.hid (show s4 < 4294967296 by omega)
  have B6 := Lib.hid (show d.length < 4294967296 by omega)
  have HF := Lib.hid (show headF ⟨kd, s1, s2, s3, s4, d⟩ = be 1 kd ++ (be 4 s1 ++ (be 4 s2 ++ (be 2 s3 ++ (be 2 s4 ++ be 2 d.length)))) from rfl)
  rw [HF.out, ← HP.out]
  have HN := Lib.hid hn
  clear h1 h2 h3 h4 h5 h6 hn HF HP
  have HLN := Lib.hid (show (put (put (put (put (put (put zh 0 1 kd) 1 4 s1) 5 4 s2) 9 2 s3) 11 2 s4) 13 2 d.length).length = 15 from rfl)
  obtain ⟨r, hr⟩ : ∃ r, put (put (put (put (put (put zh 0 1 kd) 1 4 s1) 5 4 s2) 9 2 s3) 11 2 s4) 13 2 d.length = r := ⟨_, rfl⟩
  rw [hr] at HLN ⊢
  have HRR := Lib.hid hr
  clear hr
  have hk0 := HH.out.frame.kind
  go_enter Try.func16, Try.ntmps16
  go_wp2_with fail
  refine (lay_at _ _ 0 1 kd (by omega) (by omega) B1.out _ HH.out.head).mono ?_
  rintro e w1 ⟨rfl, a1, o1⟩
  have H1 := Lib.hid (HH.out.next a1 o1)
  clear a1 o1 HH hk0
  have hk1 := H1.out.frame.ses
  go_wp2_with fail
  refine (lay_at _ _ 1 4 s1 (by omega) (by omega) B2.out _ H1.out.head).mono ?_
  rintro e w2 ⟨rfl, a1, o1⟩
  have H2 := Lib.hid (H1.out.next a1 o1)
  clear a1 o1 H1 hk1
  have hk2 := H2.out.frame.ep
  go_wp2_with fail
  refine (lay_at _ _ 5 4 s2 (by omega) (by omega) B3.out _ H2.out.head).mono ?_
  rintro e w3 ⟨rfl, a1, o1⟩
  have H3 := Lib.hid (H2.out.next a1 o1)
  clear a1 o1 H2 hk2
  have hk3 := H3.out.frame.idx
  go_wp2_with fail
  refine (lay_at _ _ 9 2 s3 (by omega) (by omega) B4.out _ H3.out.head).mono ?_
  rintro e w4 ⟨rfl, a1, o1⟩
  have H4 := Lib.hid (H3.out.next a1 o1)
  clear a1 o1 H3 hk3
  have hk4 := H4.out.frame.tot
  go_wp2_with fail
  refine (lay_at _ _ 11 2 s4 (by omega) (by omega) B5.out _ H4.out.head).mono ?_
  rintro e w5 ⟨rfl, a1, o1⟩
  have H5 := Lib.hid (H4.out.next a1 o1)
  clear a1 o1 H4 hk4
  have hk5 := H5.out.frame.data
  go_wp2_with fail
  refine (lay_at _ _ 13 2 d.length (by omega) (by omega) B6.out _ H5.out.head).mono ?_
  rintro e w6 ⟨rfl, a1, o1⟩
  have H6 := Lib.hid (H5.out.next a1 o1)
  clear a1 o1 H5 hk5
  rw [HRR.out] at H6
  have hl := H6.out.head.whole HN.out
  have hst := H6.out.res.store r HLN.out
  have hl2 := (H6.out.res.put r HLN.out).whole HN.out
  have HK := Lib.hid (H6.out.keep.setRow (w.heap.size + 1) (ac r) (by omega))
  have hzs : (ac r).size = n := by rw [ac_size, HLN.out, HN.out]
  go_wp2
  refine bodyPost_ret (v := .agg (ac r)) ?_ rfl ⟨rfl, HK.out⟩
  simp [results, Try.results16, go_sem, hsz, hl2]
end Go.Proofs.Ytcdcnlaijbjonaa
