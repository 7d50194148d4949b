/- Proved: what the writer's put of package bits does to memory. Condition: the writer is known (Wr) and has fewer than 10^12 bits. -/
import Derived.Test.YtgfbiaidbkjeiaaB
namespace Go.Proofs.Ytgfbiaidbkjeiaa
open Go.RowKit

theorem Only.setRow (b : Nat) (w : World) (c : Array Value) : Only b w (w.setRow b c) :=
  ⟨rfl, rfl, rfl, by simp [World.setRow], fun i _ hb => by
    simp only [World.setRow, Array.getElem?_modify]
    rw [if_neg (Ne.symm hb)]⟩
theorem or_bit (x c k : Nat) (hk : k < 8) (hx : x < 2 ^ k) (hc : c < 2) : bits .or .u8 (x : Int) ((c : Int) * 2 ^ k % 256) = ((x + c * 2 ^ k : Nat) : Int) ∧ x + c * 2 ^ k < 256 := by
  have h8 : 2 ^ k * 2 ≤ 256 := by
    have : 2 ^ k * 2 = 2 ^ (k + 1) := by rw [Nat.pow_succ]
    rw [this]; exact Nat.pow_le_pow_right (n := 2) (by omega) (show k + 1 ≤ 8 by omega)
  have hcp : c * 2 ^ k < 256 := by rcases (show c = 0 ∨ c = 1 by omega) with rfl | rfl <;> omega
  have e : ((c : Int) * 2 ^ k % 256) = ((c * 2 ^ k : Nat) : Int) := by
    have : ((c : Int) * 2 ^ k) = ((c * 2 ^ k : Nat) : Int) := by simp
    rw [this]; omega
  have hs : x + c * 2 ^ k < 256 := by rcases (show c = 0 ∨ c = 1 by omega) with rfl | rfl <;> omega
  refine ⟨?_, hs⟩
  rw [e, u8_or_nat x (c * 2 ^ k) (by omega) (by omega)]
  congr 1
  rw [Nat.or_comm, Nat.mul_comm, Nat.add_comm, Nat.two_pow_add_eq_or_of_lt hx]

theorem WrP.lastGet {w : World} {b : Nat} {bs : List Bool} {p : Value} {cs : List (List UInt8)} {last : List UInt8} (h : WrP w b bs p cs last) (hi : bs.length / 8 % 64 < last.length) : (last[bs.length / 8 % 64]'hi).toNat = byteN bs (bs.length / 8) := by
  have h1 : (cs.reverse.flatten ++ last)[bs.length / 8]? = last[bs.length / 8 % 64]? := by
    have hl := chain_len h.chain
    rw [h.count] at hl
    rw [List.getElem?_append_right (by omega), hl]
    congr 1
    omega
  rw [h.bytes, bytesN_get _ _ _ (by omega), List.getElem?_eq_getElem hi] at h1
  injection h1 with h1
  rw [← h1, UInt8.toNat_ofNat_of_lt' (byteN_lt _ _)]
theorem WrP.lastSet {w : World} {b : Nat} {bs : List Bool} {p : Value} {cs : List (List UInt8)} {last : List UInt8} (h : WrP w b bs p cs last) (c : Bool) :
    cs.reverse.flatten ++ last.set (bs.length / 8 % 64) (UInt8.ofNat (byteN bs (bs.length / 8) + c.toNat * 2 ^ (bs.length % 8))) = bytesN (bs ++ [c]) (64 * (bs.length / 512) + 64) := by
  rw [bytesN_snoc, ← h.bytes]
  have hl := chain_len h.chain
  rw [h.count] at hl
  rw [List.set_append_right _ _ (by omega), hl]
  congr 2
  omega
theorem load_last {P : Program} {w : World} {b k : Nat} {t : TypeId} {fz : Nat × Nat} (p : Value) (l : List UInt8) (n : Nat) (hk : l.length = k) (h : w.heap[b]? = some (.cells (wc p l n) t fz)) :
    (loadCellsFrom ⟨b, 1, none⟩ 0 k #[]).run P w = .ok (ac l) w := by
  refine load_part (l.map bv) (by simpa using hk) h ?_
  intro j v hv
  have hj : j < l.length := by
    have := (List.getElem?_eq_some_iff.1 hv).1
    simpa using this
  rw [wc_get p l n j hj]
  simp [hj, bv] at hv
  rw [hv]
def zl : List UInt8 := List.replicate 64 0
theorem zl_len : zl.length = 64 := rfl
theorem chain_ptr {w : World} : ∀ {cs : List (List UInt8)} {p : Value}, Chain w cs p → ∃ q, p = .pointer q
  | [], _, h => ⟨none, h⟩
  | _ :: _, _, ⟨g, _, hp, _⟩ => ⟨some ⟨g, 0, none⟩, hp⟩
theorem bc_setp (p q : Value) (l : List UInt8) : (bc p l).setIfInBounds 0 q = bc q l := by simp [bc]
theorem bc_fold (p : Value) (l m : List UInt8) (hl : l.length = 64) (hm : m.length = 64) : Array.foldl (fun cs x => cs.setIfInBounds (1 + x.snd) x.fst) (bc p l) (ac m).zipIdx 0 (ac m).size = bc p m := by
  rw [show (ac m).size = (ac m).zipIdx.size by simp, ← Array.foldl_toList, Array.toList_zipIdx]
  rw [fold_sets 1 (ac m).toList 0 (bc p l) (by rw [bc_size p l hl]; simp [ac, hm])]
  unfold bc ac
  refine congrArg _ ?_
  simp only
  simp [hl, hm]
theorem info61 : (Try.prog.info? 61).map (fun i => (i.zero, i.size)) = some (some (.agg (bc (.pointer none) zl)), 65) := by kernel_rfl
theorem info25 : (Try.prog.info? 25).map (fun i => (i.zero, i.size)) = some (some (.agg (ac zl)), 64) := by kernel_rfl

set_option maxRecDepth 100000 in
set_option maxHeartbeats 400000 in
theorem put_at (b : Nat) (c : Bool) (bs : List Bool) (w : World) (h : Wr w b bs) (hl : bs.length < 1000000000000) : Calls Try.prog 28 #[.pointer (some ⟨b, 0, none⟩), .int .u8 (c.toNat : Nat)] w fun e w' => e = .returned (.tuple #[]) ∧ Wr w' b (bs ++ [c]) ∧ Only b w w' := by
  obtain ⟨p, cs, last, hp⟩ := h
  obtain ⟨q, rfl⟩ := chain_ptr hp.chain
  have hlen := hp.len
  have hi : bs.length / 8 % 64 < last.length := by omega
  have hx := hp.lastGet hi
  have hset := hp.lastSet c
  have hbl := hp.block
  have cb : w.cell? ⟨b, 1 + bs.length / 8 % 64, none⟩ = some (.int .u8 ((last[bs.length / 8 % 64]'hi).toNat : Nat)) := cell_obj hp.block (wc_get (.pointer q) last _ _ hi)
  rw [hx] at cb
  obtain ⟨hor, hy⟩ := or_bit (byteN bs (bs.length / 8)) c.toNat (bs.length % 8) (by omega) (byteN_last_lt bs) (by cases c <;> simp)
  clear hx
  have Hlen := Lib.hid (show (bs ++ [c]).length = bs.length + 1 by simp)
  have Hcnt := Lib.hid hp.count
  have Hch := Lib.hid hp.chain
  have hls : (last.set (bs.length / 8 % 64) (UInt8.ofNat (byteN bs (bs.length / 8) + c.toNat * 2 ^ (bs.length % 8)))).length = 64 := by simpa using hlen
  have hws := wc_setb (.pointer q) last bs.length _ _ hi hy
  clear hp
  generalize byteN bs (bs.length / 8) + c.toNat * 2 ^ (bs.length % 8) = y at *
  generalize byteN bs (bs.length / 8) = x at *
  generalize last.set (bs.length / 8 % 64) (UInt8.ofNat y) = l2 at *
  generalize bs ++ [c] = bs2 at *
  generalize bs.length = n at *
  have c65 : w.cell? ⟨b, 65, none⟩ = some (.int .i64 n) := cell_obj hbl (wc_n (.pointer q) last _ hlen)
  have hfr : ∀ i, w.frozen? ⟨b, i, none⟩ = false := fun i => by simp [World.frozen?, hbl]
  obtain ⟨n64, hn64⟩ : ∃ n, n = 64 := ⟨64, rfl⟩
  have hsz : ∀ w, (Go.sizeOf 25).run Try.prog w = .ok n64 w := fun w => by rw [hn64]; exact Try.sizeOf25 w
  have hn0 : ¬ n64 = 0 := by omega
  have hb2 : (w.setCell ⟨b, 1 + n / 8 % 64, none⟩ (.int .u8 (y : Nat))).drew.heap[b]? = some (.cells (wc (.pointer q) l2 n) 27 (0, 0)) := by
    have := block_set hbl (1 + n / 8 % 64) (.int .u8 (y : Nat))
    rw [hws] at this; exact this
  have ho2 : Only b w (w.setCell ⟨b, 1 + n / 8 % 64, none⟩ (.int .u8 (y : Nat))).drew := (Only.setCell b _ w _).drewNew
  have Hb2 := Lib.hid hb2
  have Ho2 := Lib.hid ho2
  have Hset := Lib.hid hset
  have HNB := Lib.hid (show ∀ a, w.heap[b]? ≠ some (.cells a 61 (0, 0)) from fun a h => by rw [hbl] at h; injection h with h; injection h with _ h _; cases h)
  have Hn64 := Lib.hid hn64
  clear hbl hws hset hb2 ho2 hn64 hi
  go_enter Try.func28, Try.ntmps28
  go_wp2_with fail
  go_region
  generalize (w.setCell ⟨b, 1 + n / 8 % 64, none⟩ (.int .u8 (y : Nat))).drew = w2 at *
  clear cb c65 hfr hor
  have c65 : w2.cell? ⟨b, 65, none⟩ = some (.int .i64 n) := cell_obj Hb2.out (wc_n (.pointer q) l2 _ hls)
  have hfr : ∀ i, w2.frozen? ⟨b, i, none⟩ = false := fun i => by simp [World.frozen?, Hb2.out]
  have Hb3 := Lib.hid (show (w2.setCell ⟨b, 65, none⟩ (.int .i64 (n + 1 : Nat))).heap[b]? = some (.cells (wc (.pointer q) l2 (n + 1)) 27 (0, 0)) by
    rw [block_set Hb2.out, wc_setn (.pointer q) l2 n (n + 1) hls])
  have Ho3 := Lib.hid (Ho2.out.trans (Only.setCell b 65 w2 (.int .i64 (n + 1 : Nat))))
  rw [show ((n + 1 : Nat) : Int) = (n : Int) + 1 by omega] at Hb3 Ho3
  have Hch3 := Lib.hid (Hch.out.keep (Ho3.out.keeps HNB.out))
  by_cases h512 : (n + 1) % 512 = 0
  · have c0 : (w2.setCell ⟨b, 65, none⟩ (.int .i64 ((n : Int) + 1))).cell? ⟨b, 0, none⟩ = some (.pointer q) := cell_obj Hb3.out (wc_full (.pointer q) l2 _)
    have hfr3 : ∀ i, (w2.setCell ⟨b, 65, none⟩ (.int .i64 ((n : Int) + 1))).frozen? ⟨b, i, none⟩ = false := fun i => by simp [World.frozen?, Hb3.out]
    have hl1 : (loadCellsFrom ⟨b, 1, none⟩ 0 n64 #[]).run Try.prog (w2.setCell ⟨b, 65, none⟩ (.int .i64 ((n : Int) + 1))).drew = .ok (ac l2) (w2.setCell ⟨b, 65, none⟩ (.int .i64 ((n : Int) + 1))).drew := load_last (.pointer q) l2 (n + 1) (by rw [hls, Hn64.out]) Hb3.out
    obtain ⟨hz, _⟩ := zero_of_info info61
    obtain ⟨n65, hn65⟩ : ∃ n, n = 65 := ⟨65, rfl⟩
    have hsz65 : ∀ w, (Go.sizeOf 61).run Try.prog w = .ok n65 w := fun w => by rw [hn65]; exact Try.sizeOf61 w
    have z1 : (bc (.pointer none) zl).size = 65 := bc_size _ _ zl_len
    have z2 : (bc (.pointer q) zl).size = 65 := bc_size _ _ zl_len
    have z3 : (bc (.pointer q) l2).size = n65 := by rw [hn65]; exact bc_size _ _ hls
    have hne : bc (.pointer none) zl ≠ #[] := by intro h; rw [h] at z1; simp at z1
    have hac : (ac l2).size = n64 := by rw [ac_size, hls, Hn64.out]
    have hn17 : ¬ 65 < 1 + n64 := by rw [Hn64.out]; omega
    have f1 := bc_setp (.pointer none) (.pointer q) zl
    have f2 := bc_fold (.pointer q) zl l2 zl_len hls
    rw [hac] at f2
    have hc4 : ∀ o, ((w2.setCell ⟨b, 65, none⟩ (.int .i64 ((n : Int) + 1))).alloc o).cell? ⟨b, 0, none⟩ = some (.pointer q) := fun o => cell_obj (alloc_old Hb3.out o) (wc_full (.pointer q) l2 _)
    have hfr4 : ∀ o i, ((w2.setCell ⟨b, 65, none⟩ (.int .i64 ((n : Int) + 1))).alloc o).frozen? ⟨b, i, none⟩ = false := fun o i => by simp [World.frozen?, alloc_old Hb3.out o]
    go_wp2_with fail
    go_region
    have hs3 : (w2.setCell ⟨b, 65, none⟩ (.int .i64 ((n : Int) + 1))).heap.size = w2.heap.size := by simp [World.setCell]
    have hlt : b ≠ w2.heap.size := by have := lt_of_block Hb2.out; omega
    have g1 : (((w2.setCell ⟨b, 65, none⟩ (.int .i64 ((n : Int) + 1))).alloc (.cells (bc (.pointer q) l2) 61)).setCell ⟨b, 0, none⟩ (.pointer (some ⟨w2.heap.size, 0, none⟩))).drew.heap[b]? = some (.cells (wc (.pointer (some ⟨w2.heap.size, 0, none⟩)) l2 (n + 1)) 27 (0, 0)) := by
      have := block_set (alloc_old Hb3.out (.cells (bc (.pointer q) l2) 61)) 0 (.pointer (some ⟨w2.heap.size, 0, none⟩))
      rw [wc_setp] at this; exact this
    have g2 : (((w2.setCell ⟨b, 65, none⟩ (.int .i64 ((n : Int) + 1))).alloc (.cells (bc (.pointer q) l2) 61)).setCell ⟨b, 0, none⟩ (.pointer (some ⟨w2.heap.size, 0, none⟩))).drew.heap[w2.heap.size]? = some (.cells (bc (.pointer q) l2) 61 (0, 0)) := by
      have := heap_alloc_last (w2.setCell ⟨b, 65, none⟩ (.int .i64 ((n : Int) + 1))) (.cells (bc (.pointer q) l2) 61)
      rw [hs3] at this
      exact setCell_old this b 0 _ (Ne.symm hlt)
    have g3 : Only b w (((w2.setCell ⟨b, 65, none⟩ (.int .i64 ((n : Int) + 1))).alloc (.cells (bc (.pointer q) l2) 61)).setCell ⟨b, 0, none⟩ (.pointer (some ⟨w2.heap.size, 0, none⟩))).drew := ((Ho3.out.allocNew _).trans (Only.setCell b 0 _ _)).drewNew
    generalize (((w2.setCell ⟨b, 65, none⟩ (.int .i64 ((n : Int) + 1))).alloc (.cells (bc (.pointer q) l2) 61)).setCell ⟨b, 0, none⟩ (.pointer (some ⟨w2.heap.size, 0, none⟩))).drew = w4 at *
    generalize w2.heap.size = g at *
    have hst : (storeCells ⟨b, 1, none⟩ (ac zl).toList).run Try.prog w4 = .ok () (w4.setRow b (wc (.pointer (some ⟨g, 0, none⟩)) zl (n + 1))) := by
      have := run_storeCells_at Try.prog b 1 27 (ac zl).toList 0 _ w4 g1 (by rw [wc_size _ _ _ hls]; simp [ac, zl_len]) (ac_one zl)
      rw [Nat.add_zero, wc_setl _ l2 zl (n + 1) hls zl_len] at this
      exact this
    have hzs : (ac zl).size = n64 := by rw [ac_size, zl_len, Hn64.out]
    obtain ⟨hz25, _⟩ := zero_of_info info25
    have G1 := Lib.hid g1
    have G2 := Lib.hid g2
    have G3 := Lib.hid g3
    clear g1 g2 g3 hc4 hfr4 hs3 c0 hfr3 hl1 hz f1 f2 z1 z2 z3 hne hac hsz65
    go_wp2
    go_returns
    have ho5 : Only b w (w4.setRow b (wc (.pointer (some ⟨g, 0, none⟩)) zl (n + 1))) := G3.out.trans (Only.setRow b w4 _)
    have hk5 : Keeps w (w4.setRow b (wc (.pointer (some ⟨g, 0, none⟩)) zl (n + 1))) := ho5.keeps HNB.out
    refine ⟨rfl, ⟨.pointer (some ⟨g, 0, none⟩), l2 :: cs, zl, ?_, zl_len, ⟨g, .pointer q, rfl, setRow_old G2.out _ _ (Ne.symm hlt), hls, Hch.out.keep hk5⟩, ?_, ?_⟩, ho5⟩
    · rw [Hlen.out]; exact block_row G1.out _
    · rw [Hlen.out, List.length_cons, Hcnt.out]; omega
    · rw [List.reverse_cons, List.flatten_append, List.flatten_cons, List.flatten_nil, List.append_nil, Hset.out]
      have e : 64 * (bs2.length / 512) + 64 = (64 * (n / 512) + 64) + 64 := by rw [Hlen.out]; omega
      rw [e, bytesN_more bs2 (64 * (n / 512) + 64) 64 (by rw [Hlen.out]; omega)]
      rfl
  · go_wp2
    go_returns
    refine ⟨rfl, ⟨.pointer q, cs, l2, ?_, hls, Hch3.out, ?_, ?_⟩, Ho3.out⟩
    · rw [Hlen.out]; exact Hb3.out
    · rw [Hlen.out, Hcnt.out]; omega
    · rw [Hset.out, Hlen.out]; congr 1; omega
end Go.Proofs.Ytgfbiaidbkjeiaa
