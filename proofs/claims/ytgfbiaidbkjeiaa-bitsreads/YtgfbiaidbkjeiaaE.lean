/- Proved: what the writer's String of package bits answers. Condition: the writer is known (Wr) and has fewer than 10^12 bits. -/
import Derived.Test.YtgfbiaidbkjeiaaD
namespace Go.Proofs.Ytgfbiaidbkjeiaa
open Go.RowKit

theorem info5 : (Try.prog.info? 5).map (·.size) = some 1 := by kernel_rfl
theorem info5b : (Try.prog.info? 5).map (fun i => (i.zero, i.size, i.bytes)) = some (some (.int .u8 0), 1, 1) := by kernel_rfl
theorem made_ac (k : Nat) : madeCells (Value.int .u8 0).cells (k * 1) = ac (List.replicate k 0) := by
  apply Array.ext
  · rw [size_madeCells, ac_size]; simp
  · intro i h1 h2
    simp [madeCells, Value.cells, ac, bv, Nat.mod_one]
theorem make_at (k : Nat) (hk : k ≤ 281474976710656) (w : World) : (Instr.makeSlice 58 (.int .i64 k) (.int .i64 k)).run Try.prog w = .ok (.slice (some ⟨w.heap.size, 0, none⟩) k k) (w.alloc (.cells (ac (List.replicate k 0)) 5)) := by
  obtain ⟨i0, hi, hz0, hz1, hz2⟩ := info_parts info5b
  have h := run_make (P := Try.prog) w 58 5 i0 (.int .u8 0) Try.underlying58 hi hz0 .i64 .i64 k k (by omega) (Int.le_refl _) (by rw [hz2]; omega) (by omega)
  rw [h, hz1, Int.toNat_natCast, made_ac]
theorem copy_part (w : World) (g o m cap b p : Nat) (L c : List UInt8) (hg : w.heap[g]? = some (.cells (ac L) 5 (0, 0))) (hc : c.length = 64) (hsrc : ∀ j (h : j < c.length), w.cell? ⟨b, p + j, none⟩ = some (.int .u8 (c[j].toNat : Nat))) (hm : o + min 64 m ≤ L.length) :
    (Builtin.copy_ #[58, 58] 3 #[.slice (some ⟨g, o, none⟩) m cap, .slice (some ⟨b, p, none⟩) 64 64]).run Try.prog w = .ok (.int .i64 (min 64 m : Nat)) (w.setRow g (ac (L.take o ++ c.take (min 64 m) ++ L.drop (o + min 64 m)))) := by
  have hlen : ((c.take (min 64 m)).map bv).length = min 64 m := by simp; omega
  have h := run_copy_row (P := Try.prog) w 58 58 3 5 g o m cap ⟨b, p, none⟩ 64 64 (ac L) 5 ((c.take (min 64 m)).map bv) Try.underlying58 info5 hg (by rw [hlen])
    (fun j v hv => by
      have hadd : (⟨b, p, none⟩ : Addr).add j = ⟨b, p + j, none⟩ := by unfold Addr.add; split <;> simp_all
      have hj : j < min 64 m := by have := (List.getElem?_eq_some_iff.1 hv).1; omega
      have hj2 : j < c.length := by omega
      rw [hadd, hsrc j hj2, ← hv, List.getElem?_map, List.getElem?_take_of_lt hj, List.getElem?_eq_getElem hj2]
      rfl) (by rw [hlen, ac_size]; omega) (fun v hv => by
      simp only [List.mem_map] at hv
      obtain ⟨c, _, rfl⟩ := hv
      rfl)
  rw [h, hlen]
  have e : ((ac L).toList.take o ++ (c.take (min 64 m)).map bv ++ (ac L).toList.drop (o + min 64 m)).toArray = ac (L.take o ++ c.take (min 64 m) ++ L.drop (o + min 64 m)) := by
    unfold ac
    refine congrArg _ ?_
    simp
  rw [e]
  rfl
theorem conv_bytes {w : World} {b : Nat} {t : TypeId} {fz : Nat × Nat} (L : List UInt8) (h : w.heap[b]? = some (.cells (ac L) t fz)) (n cap : Nat) (hn : n = L.length) : (convert 58 9 (.slice (some ⟨b, 0, none⟩) n cap)).run Try.prog w = .ok (.string ⟨L.toArray⟩) w := by
  subst hn
  refine run_convert_bytes_back (P := Try.prog) w 58 9 5 ⟨b, 0, none⟩ cap L Try.underlying58 Try.underlying5 Try.underlying9 ?_
  intro j hj
  have hadd : (⟨b, 0, none⟩ : Addr).add j = ⟨b, j, none⟩ := by unfold Addr.add; split <;> simp_all
  rw [hadd]
  exact cell_obj h (ac_get L j hj)
theorem all_bytes (b p : Nat) (w : World) : (Instr.sliceAt 25 (.pointer (some ⟨b, p, none⟩)) none none none).run Try.prog w = .ok (.slice (some ⟨b, p, none⟩) 64 64) w := by
  have hn : Try.prog.arrayLen 25 = 64 := by kernel_rfl
  have he : Try.prog.elem 25 = 5 := by kernel_rfl
  have := run_sliceAt_array_all (P := Try.prog) w 25 ⟨b, p, none⟩ (by kernel_rfl)
  rw [this, he, Try.sizeOf5 w]
  simp [slicedAt, hn, Addr.add]

theorem from_at (g K a : Nat) (h : a ≤ K) (w : World) : (Instr.sliceAt 58 (.slice (some ⟨g, 0, none⟩) K K) (some (.int .i64 a)) none none).run Try.prog w = .ok (.slice (some ⟨g, if K = a then 0 else a, none⟩) (K - a) (K - a)) w := by
  have he : Try.prog.elem 58 = 5 := by kernel_rfl
  by_cases e : K = a
  · subst e
    go_simp
  · rw [if_neg e]
    go_simp
/-- The loop over blocks. -/
def StRel (w : World) (g K : Nat) (bs : List Bool) (av pv : Value) (wr : World) : Prop :=
  ∃ (a : Nat) (rest : List (List UInt8)) (tail : List UInt8), av = .int .i64 a ∧ a = 64 * rest.length ∧ Chain wr rest pv ∧ wr.heap[g]? = some (.cells (ac (List.replicate a 0 ++ tail)) 5 (0, 0)) ∧ rest.reverse.flatten ++ tail = bytesL bs ∧ a + tail.length = K ∧ Same w wr

theorem first_copy (K A : Nat) (last : List UInt8) (h : A ≤ K) (h64 : K - A ≤ 64) : (List.replicate K (0 : UInt8)).take (if K = A then 0 else A) ++ last.take (min 64 (K - A)) ++ (List.replicate K 0).drop ((if K = A then 0 else A) + min 64 (K - A)) = List.replicate A 0 ++ last.take (K - A) := by
  rw [Nat.min_eq_right h64]
  by_cases e : K = A
  · subst e; simp
  · rw [if_neg e, show A + (K - A) = K by omega]
    simp [Nat.min_eq_left h]

set_option maxRecDepth 100000 in
set_option maxHeartbeats 400000 in
theorem wstring_at (b : Nat) (bs : List Bool) (w : World) (h : Wr w b bs) (hl : bs.length ≤ 1000000000000) : Calls Try.prog 15 #[.pointer (some ⟨b, 0, none⟩)] w fun e w' => e = .returned (.string ⟨(bytesL bs).toArray⟩) ∧ Same w w' := by
  obtain ⟨p, cs, last, hp⟩ := h
  obtain ⟨q, rfl⟩ := chain_ptr hp.chain
  obtain ⟨g, hg⟩ : ∃ g, g = w.heap.size := ⟨_, rfl⟩
  have hlt : b ≠ g := by have := lt_of_block hp.block; omega
  obtain ⟨K, hK⟩ : ∃ K, K = (bs.length + 7) / 8 := ⟨_, rfl⟩
  obtain ⟨A, hA⟩ : ∃ A, A = 64 * (bs.length / 512) := ⟨_, rfl⟩
  have c65 : w.cell? ⟨b, 65, none⟩ = some (.int .i64 bs.length) := cell_obj hp.block (wc_n _ last _ hp.len)
  have c65a : ∀ o, (w.alloc o).cell? ⟨b, 65, none⟩ = some (.int .i64 bs.length) := fun o => cell_obj (alloc_old hp.block o) (wc_n _ last _ hp.len)
  have hmk : (Instr.makeSlice 58 (.int .i64 (((bs.length : Int) + 7) / 8)) (.int .i64 (((bs.length : Int) + 7) / 8))).run Try.prog w = .ok (.slice (some ⟨g, 0, none⟩) K K) (w.alloc (.cells (ac (List.replicate K 0)) 5)) := by
    have := make_at K (by omega) w
    rw [show ((K : Nat) : Int) = ((bs.length : Int) + 7) / 8 by omega, ← hg] at this
    exact this
  have hal := all_bytes
  have hsl : ∀ w, (Instr.sliceAt 58 (.slice (some ⟨g, 0, none⟩) K K) (some (.int .i64 ((bs.length : Int) / 512 * 64))) none none).run Try.prog w = .ok (.slice (some ⟨g, if K = A then 0 else A, none⟩) (K - A) (K - A)) w := fun w => by
    have := from_at g K A (by omega) w
    rw [show ((A : Nat) : Int) = (bs.length : Int) / 512 * 64 by omega] at this
    exact this
  have hgl : (w.alloc (.cells (ac (List.replicate K 0)) 5)).drew.heap[g]? = some (.cells (ac (List.replicate K 0)) 5 (0, 0)) := by rw [hg]; exact heap_alloc_last w _
  have hcp := copy_part (w.alloc (.cells (ac (List.replicate K 0)) 5)).drew g (if K = A then 0 else A) (K - A) (K - A) b 1 (List.replicate K 0) last hgl hp.len (fun j hj => cell_obj (alloc_old hp.block _) (wc_get _ last _ j hj)) (by rw [List.length_replicate]; split <;> omega)
  rw [first_copy K A last (by omega) (by omega)] at hcp
  have Hg2 := Lib.hid (block_row hgl (ac (List.replicate A 0 ++ last.take (K - A))))
  have Hs2 := Lib.hid ((((Same.refl w).alloc (.cells (ac (List.replicate K 0)) 5)).drew).setRow g (ac (List.replicate A 0 ++ last.take (K - A))) (by omega))
  have hB0 : ((w.alloc (.cells (ac (List.replicate K 0)) 5)).drew.setRow g (ac (List.replicate A 0 ++ last.take (K - A)))).heap[b]? = some (.cells (wc (.pointer q) last bs.length) 27 (0, 0)) := Hs2.out.obj hp.block
  have c0 := cell_obj hB0 (wc_full (.pointer q) last bs.length)
  have HC := Lib.hid (hp.chain.keep Hs2.out.keeps)
  have HB := Lib.hid (show cs.reverse.flatten ++ last.take (K - A) = bytesL bs by
    unfold bytesL
    rw [← bytesN_take bs (64 * (bs.length / 512) + 64) _ (by omega), ← hp.bytes, List.take_append, List.take_of_length_le (l := cs.reverse.flatten) (by rw [chain_len hp.chain, hp.count]; omega), chain_len hp.chain, hp.count, hK, hA])
  have Hcnt := Lib.hid hp.count
  have Hll := Lib.hid hp.len
  have HK := Lib.hid hK
  have HA := Lib.hid hA
  have HG := Lib.hid hg
  have hKl : K ≤ 1000000000000 := by omega
  clear hp hgl hB0 hK hA hg
  generalize hO : (if K = A then 0 else A) = O at *
  generalize hM : K - A = M at *
  generalize (w.alloc (.cells (ac (List.replicate K 0)) 5)).drew.setRow g (ac (List.replicate A 0 ++ last.take M)) = w3 at *
  have HO := Lib.hid hO
  have HM := Lib.hid hM
  clear hO hM
  generalize hn : bs.length = n at *
  have HN := Lib.hid hn
  clear hn
  go_enter Try.func15, Try.ntmps15
  go_wp2_with fail
  go_region
  clear c65 c65a hmk hsl hcp
  go_wp2_with fail
  go_loopw [4, 5] (fun av pv wr => StRel w g K bs av pv wr) (fun av _ _ => (intOf av).toNat)
  case atStart =>
    have e1 := HA.out
    have e2 := Hcnt.out
    have e3 := HM.out
    have e4 := HK.out
    exact ⟨A, cs, last.take M, by rw [e1]; congr 1; omega, by omega, HC.out, Hg2.out, HB.out, by rw [List.length_take, Hll.out]; omega, Hs2.out⟩
  case round =>
    obtain ⟨a, rest, tail, rfl, ha, hch, hgr, htl, hKt, hs⟩ := hrel
    have HSr := Lib.hid hs
    have HTl := Lib.hid htl
    clear c0 HC Hg2 Hs2 hs htl
    rcases rest with _ | ⟨c, rest⟩
    · obtain rfl := (show _ = Value.pointer none from hch)
      have ha0 : a = 0 := by simpa using ha
      subst ha0
      rw [List.replicate_zero, List.nil_append] at hgr
      have hcv := conv_bytes tail hgr K K (by omega)
      clear ha hKt hgr hal hch
      go_wp2
      go_ret
      refine ⟨?_, HSr.out⟩
      rw [← HTl.out]
      rfl
    · obtain ⟨gc, pq, rfl, hgc, hc64, hch2⟩ := hch
      obtain ⟨q2, rfl⟩ := chain_ptr hch2
      obtain ⟨a2, rfl⟩ : ∃ a2, a = a2 + 64 := ⟨64 * rest.length, by simp at ha; omega⟩
      have hne : gc ≠ g := by
        intro e; subst e; rw [hgr] at hgc; injection hgc with hgc; injection hgc with _ hgc _; cases hgc
      have hcg := cell_obj hgc (bc_full (.pointer q2) c)
      have hsl : ∀ w, (Instr.sliceAt 58 (.slice (some ⟨g, 0, none⟩) K K) (some (.int .i64 (a2 : Nat))) none none).run Try.prog w = .ok (.slice (some ⟨g, a2, none⟩) (K - a2) (K - a2)) w := fun w => by
        have := from_at g K a2 (by omega) w
        rw [if_neg (by omega)] at this
        exact this
      have hcp := copy_part wr.drew g a2 (K - a2) (K - a2) gc 1 _ c hgr hc64 (fun j hj => cell_obj hgc (bc_get _ c j hj)) (by rw [List.length_append, List.length_replicate]; omega)
      have e64 : List.take a2 (List.replicate (a2 + 64) 0 ++ tail) ++ List.take (min 64 (K - a2)) c ++ List.drop (a2 + min 64 (K - a2)) (List.replicate (a2 + 64) 0 ++ tail) = List.replicate a2 0 ++ (c ++ tail) := by
        rw [Nat.min_eq_left (by omega), List.take_of_length_le (l := c) (by omega), List.append_assoc]
        congr 1
        · rw [List.take_append_of_le_length (by simp)]; simp
        · congr 1
          exact List.drop_left' (by simp)
      rw [e64] at hcp
      have Hg4 := Lib.hid (block_row (w := wr.drew) hgr (ac (List.replicate a2 0 ++ (c ++ tail))))
      have hs4 : Same w (wr.drew.setRow g (ac (List.replicate a2 0 ++ (c ++ tail)))) := HSr.out.drew.setRow g _ (by rw [HG.out]; exact Nat.le_refl _)
      have hk4 : Keeps wr (wr.drew.setRow g (ac (List.replicate a2 0 ++ (c ++ tail)))) := by
        intro x y hx
        refine setRow_old hx g _ ?_
        intro e; subst e; rw [hgr] at hx; injection hx with hx; injection hx with _ hx _; cases hx
      have hc5 := cell_obj (hk4 _ _ hgc) (bc_full (.pointer q2) c)
      have HC4 := Lib.hid (hch2.keep hk4)
      have HS4 := Lib.hid hs4
      have HT4 := Lib.hid (show rest.reverse.flatten ++ (c ++ tail) = bytesL bs by rw [← HTl.out]; simp)
      have Hx := Lib.hid (show a2 = 64 * rest.length by simp at ha; omega)
      have Hy := Lib.hid (show a2 + (c ++ tail).length = K by rw [List.length_append]; omega)
      have ha2 : a2 + 64 ≤ 1000000000000 := by omega
      clear hk4 hs4 hch2 hgc hgr ha hKt e64 hc64
      generalize wr.drew.setRow g (ac (List.replicate a2 0 ++ (c ++ tail))) = w4 at *
      generalize K - a2 = M2 at *
      generalize min 64 M2 = M3 at *
      go_wp2_with fail
      go_region
      go_wp2
      go_roundw
      case rel => exact ⟨a2, rest, c ++ tail, rfl, Hx.out, HC4.out, Hg4.out, HT4.out, Hy.out, HS4.out⟩
      case measure => simp [intOf]; omega
end Go.Proofs.Ytgfbiaidbkjeiaa
