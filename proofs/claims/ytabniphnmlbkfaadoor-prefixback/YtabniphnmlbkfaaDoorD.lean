/- Proved: what Bytes of prefix and of the document answer. Condition: an address has sixteen bytes. -/
import Derived.Test.YtabniphnmlbkfaaDoorC
import Derived.Laws.IdiomStrings
namespace Go.Proofs.YtabniphnmlbkfaaDoor
open Go.RowKit

def headN (p : Px) : Nat := p.len.toNat + (if p.six then 64 else 0)
def bytesL (p : Px) : List UInt8 := UInt8.ofNat (headN p) :: p.addr.take (needN p.len.toNat)
theorem info60 : (Tryd.prog.info? 60).map (fun i => (i.zero, i.size)) = some (some (.agg (ac (0 :: zl))), 17) := by kernel_rfl
theorem conv_bytes {w : World} {b : Nat} {t : TypeId} {fz : Nat × Nat} (L : List UInt8) (h : w.heap[b]? = some (.cells (ac L) t fz)) (n : Nat) (hn : n ≤ L.length) (cap : Nat) : (convert 53 9 (.slice (some ⟨b, 0, none⟩) n cap)).run Tryd.prog w = .ok (.string ⟨(L.take n).toArray⟩) w := by
  have := run_convert_bytes_back (P := Tryd.prog) w 53 9 5 ⟨b, 0, none⟩ cap (L.take n) Tryd.underlying53 Tryd.underlying5 Tryd.underlying9 (by
    intro j hj
    have hadd : (⟨b, 0, none⟩ : Addr).add j = ⟨b, j, none⟩ := by unfold Addr.add; split <;> simp_all
    rw [hadd]
    have hj2 : j < L.length := by simp at hj; omega
    rw [cell_obj h (ac_get L j hj2)]
    simp)
  rwa [List.length_take, Nat.min_eq_left hn] at this
theorem cutp (b m : Nat) (h : m ≤ 16) (w : World) : (Instr.sliceAt 22 (.pointer (some ⟨b, 1, none⟩)) none (some (.int .i64 m)) none).run Tryd.prog w = .ok (.slice (some ⟨b, 1, none⟩) m 16) w := by
  have hn : Tryd.prog.arrayLen 22 = 16 := by kernel_rfl
  have he : Tryd.prog.elem 22 = 5 := by kernel_rfl
  have := run_sliceAt_array_h (P := Tryd.prog) w 22 ⟨b, 1, none⟩ (by kernel_rfl) .i64 (m : Int) (by omega) (by omega)
  rw [this, he, Tryd.sizeOf5 w]
  simp [slicedAt, hn, Addr.add]
theorem cut17 (b m : Nat) (h : m ≤ 17) (w : World) : (Instr.sliceAt 60 (.pointer (some ⟨b, 0, none⟩)) none (some (.int .i64 m)) none).run Tryd.prog w = .ok (.slice (some ⟨b, 0, none⟩) m 17) w := by
  have hn : Tryd.prog.arrayLen 60 = 17 := by kernel_rfl
  have he : Tryd.prog.elem 60 = 5 := by kernel_rfl
  have := run_sliceAt_array_h (P := Tryd.prog) w 60 ⟨b, 0, none⟩ (by kernel_rfl) .i64 (m : Int) (by omega) (by omega)
  rw [this, he, Tryd.sizeOf5 w]
  simp [slicedAt, hn, Addr.add]
theorem from17 (b : Nat) (w : World) : (Instr.sliceAt 60 (.pointer (some ⟨b, 0, none⟩)) (some (.int .i64 1)) none none).run Tryd.prog w = .ok (.slice (some ⟨b, 1, none⟩) 16 16) w := by
  have hn : Tryd.prog.arrayLen 60 = 17 := by kernel_rfl
  have he : Tryd.prog.elem 60 = 5 := by kernel_rfl
  have := run_sliceAt_array_l (P := Tryd.prog) w 60 ⟨b, 0, none⟩ (by kernel_rfl) .i64 1 (by omega) (by omega)
  rw [this, he, Tryd.sizeOf5 w]
  simp [slicedAt, hn, Addr.add]
theorem copy17 (w : World) (g b m : Nat) (p : Px) (c : UInt8) (hm : m ≤ 16) (hg : w.heap[g]? = some (.cells (ac (c :: zl)) 60 (0, 0))) (hb : At w b p) :
    (Builtin.copy_ #[53, 53] 3 #[.slice (some ⟨g, 1, none⟩) 16 16, .slice (some ⟨b, 1, none⟩) m 16]).run Tryd.prog w = .ok (.int .i64 m) (w.setRow g (ac (c :: padL (p.addr.take m)))) := by
  have hl := hb.len
  have hlen : ((p.addr.take m).map bv).length = m := by simp; omega
  have h := run_copy_row (P := Tryd.prog) w 53 53 3 5 g 1 16 16 ⟨b, 1, none⟩ m 16 (ac (c :: zl)) 60 ((p.addr.take m).map bv) Tryd.underlying53 info5 hg (by rw [hlen]; exact (Nat.min_eq_left hm).symm)
    (fun j v hv => by
      have hadd : (⟨b, 1, none⟩ : Addr).add j = ⟨b, 1 + j, none⟩ := by unfold Addr.add; split <;> simp_all
      have hj : j < m := by have := (List.getElem?_eq_some_iff.1 hv).1; omega
      have hj2 : j < p.addr.length := by omega
      rw [hadd, hb.byte j (by omega), ← hv]
      simp [hj, hj2, bv]) (by rw [hlen, ac_size]; simp [zl]; omega) (fun v hv => by
      simp only [List.mem_map] at hv
      obtain ⟨c, _, rfl⟩ := hv
      rfl)
  rw [h, hlen]
  have e : ((ac (c :: zl)).toList.take 1 ++ (p.addr.take m).map bv ++ (ac (c :: zl)).toList.drop (1 + m)).toArray = ac (c :: padL (p.addr.take m)) := by
    unfold ac padL zl
    refine congrArg _ ?_
    have e2 : List.map bv (c :: List.take 16 (List.take m p.addr ++ List.replicate 16 0)) = bv c :: List.take 16 (List.map bv (List.take m p.addr) ++ List.map bv (List.replicate 16 0)) := by rw [List.map_cons, List.map_take (i := 16), List.map_append]
    rw [e2]
    simp only [List.map_cons]
    generalize hM : List.map bv (List.take m p.addr) = M at *
    rw [List.map_replicate, List.take_succ_cons, List.take_zero, Nat.add_comm 1 m, List.drop_succ_cons, List.drop_replicate, List.take_append, List.take_of_length_le (by omega), hlen, List.take_replicate, Nat.min_eq_left (by omega)]
    simp
  rw [e]
  rfl

theorem head_set (c : UInt8) (k : Nat) (hk : k < 256) : (ac (c :: zl)).setIfInBounds 0 (.int .u8 (k : Nat)) = ac (UInt8.ofNat k :: zl) := by
  rw [ac_set _ _ _ hk]
  rfl
theorem head_get (k : Nat) (hk : k < 256) : (ac (UInt8.ofNat k :: zl))[0]? = some (.int .u8 (k : Nat)) := by
  rw [ac_get _ 0 (by simp)]
  simp [Nat.mod_eq_of_lt hk]

set_option maxRecDepth 100000 in
theorem bytes_no (p : Px) (hp : p.addr.length = 16) (hr : ¬ rightP p) : Gives Tryd.prog 21 #[.agg (pc p)] (.string ⟨#[]⟩) := by
  intro w
  obtain ⟨hA, hS⟩ := one_at w p hp
  have HR := Lib.hid (right p hp)
  rw [decide_eq_false hr] at HR
  obtain ⟨n2, hn2⟩ : ∃ n, n = 18 := ⟨18, rfl⟩
  have hsz2 : ∀ w, (Go.sizeOf 24).run Tryd.prog w = .ok n2 w := fun w => by rw [hn2]; exact Tryd.sizeOf24 w
  have hw := hA.whole hn2
  have HS := Lib.hid hS
  clear hA hS hn2
  go_enter Tryd.func21, Tryd.ntmps21
  go_wp2_with fail
  refine (HR.out _).mono ?_
  rintro e w1 ⟨rfl, b1⟩
  go_wp2
  go_ret
  exact ⟨rfl, HS.out.trans b1⟩

theorem head_lt (p : Px) (h : rightP p) : headN p < 256 := by
  have h1 := h.2.1
  unfold headN
  cases hs : p.six
  · rw [hs] at h1; simp [sizeN] at h1 ⊢; omega
  · rw [hs] at h1; simp [sizeN] at h1 ⊢; omega

set_option maxRecDepth 100000 in
theorem bytes_ok (p : Px) (hp : p.addr.length = 16) (hr : rightP p) : Gives Tryd.prog 21 #[.agg (pc p)] (.string ⟨(bytesL p).toArray⟩) := by
  intro w
  obtain ⟨hA, hS⟩ := one_at w p hp
  obtain ⟨hz, hi⟩ := zero_of_info info60
  have HR := Lib.hid (right p hp)
  rw [decide_eq_true hr] at HR
  obtain ⟨n2, hn2⟩ : ∃ n, n = 18 := ⟨18, rfl⟩
  have hsz2 : ∀ w, (Go.sizeOf 24).run Tryd.prog w = .ok n2 w := fun w => by rw [hn2]; exact Tryd.sizeOf24 w
  obtain ⟨n1, hn1⟩ : ∃ n, n = 16 := ⟨16, rfl⟩
  have hsz1 : ∀ w, (Go.sizeOf 22).run Tryd.prog w = .ok n1 w := fun w => by rw [hn1]; exact Tryd.sizeOf22 w
  have hn0 : ¬ n1 = 0 := by omega
  obtain ⟨k, hk⟩ : ∃ k : Nat, p.len = k := ⟨p.len.toNat, by have := hr.1; omega⟩
  have hk2 : k ≤ 128 := by have := hr.2.1; have := sizeN_le p.six; omega
  have hhd := head_lt p hr
  have hhe : headN p = k + (if p.six then 64 else 0) := by unfold headN; rw [hk, Int.toNat_natCast]
  have Hby := Lib.hid (show bytesL p = UInt8.ofNat (headN p) :: p.addr.take (needN k) by unfold bytesL; rw [hk, Int.toNat_natCast])
  have hm : needN k ≤ 16 := by unfold needN; omega
  have Hnd := Lib.hid (need_at k hk2)
  have hw := hA.whole hn2
  have HA := Lib.hid hA
  have HS := Lib.hid hS
  have HK := Lib.hid hk
  clear hA hS hn2 hn1 hi hr hk
  generalize needN k = m at *
  go_enter Tryd.func21, Tryd.ntmps21
  go_wp2_with fail
  refine (HR.out _).mono ?_
  rintro e w1 ⟨rfl, b1⟩
  have HA1 := Lib.hid (fun o => HA.out.mono (b1.alloc o))
  have h0 := fun o => (HA1.out o).six
  have h17 := fun o => (HA1.out o).bits
  rw [HK.out] at h17
  have hne : w.heap.size ≠ w1.heap.size := by
    have := b1.size
    have h : (w.alloc (.cells (pc p) 24)).heap.size = w.heap.size + 1 := by simp
    omega
  have hge : w.heap.size ≤ w1.heap.size := (HS.out.trans b1).size
  have HS1 := Lib.hid (fun o => (HS.out.trans b1).alloc o)
  have e1 := head_set 0 k (by omega)
  have e2 := head_get k (by omega)
  have hsl := fun b w => cutp b m hm w
  have hfr := from17
  have hct : ∀ b w, (Instr.sliceAt 60 (.pointer (some ⟨b, 0, none⟩)) none (some (.int .i64 (1 + (m : Int)))) none).run Tryd.prog w = .ok (.slice (some ⟨b, 0, none⟩) (1 + m) 17) w := fun b w => by
    have := cut17 b (1 + m) (by omega) w
    simpa using this
  clear hw HA HS b1
  have fin : ∀ c : UInt8, c = UInt8.ofNat (headN p) → (convert 53 9 (.slice (some ⟨w1.heap.size, 0, none⟩) (1 + m) 17)).run Tryd.prog ((w1.alloc (.cells (ac (c :: zl)) 60)).drew.setRow w1.heap.size (ac (c :: padL (p.addr.take m)))) = .ok (.string ⟨(bytesL p).toArray⟩) ((w1.alloc (.cells (ac (c :: zl)) 60)).drew.setRow w1.heap.size (ac (c :: padL (p.addr.take m)))) := fun c hc => by
    have := conv_bytes (c :: padL (p.addr.take m)) (block_row (w := (w1.alloc (.cells (ac (c :: zl)) 60)).drew) (heap_alloc_last w1 (.cells (ac (c :: zl)) 60)) (ac (c :: padL (p.addr.take m)))) (1 + m) (by simp [padL_len]; omega) 17
    rw [this, Hby.out, ← hc]
    have e : List.take (1 + m) (c :: padL (p.addr.take m)) = c :: p.addr.take m := by
      rw [Nat.add_comm, List.take_succ_cons]
      unfold padL
      rw [List.take_take, Nat.min_eq_left hm]
      exact congrArg _ (List.take_left' (by simp [hp]; omega))
    rw [e]
  have hcp := fun c => copy17 (w1.alloc (.cells (ac (c :: zl)) 60)).drew w1.heap.size w.heap.size m p c hm (heap_alloc_last w1 _) ((HA1.out (.cells (ac (c :: zl)) 60)).mono (Same.refl _).drew)
  cases hs : p.six
  · rw [hs] at hhe h0
    have hc1 := hcp (UInt8.ofNat k)
    have hf1 := fin (UInt8.ofNat k) (by rw [hhe]; simp)
    clear hcp fin
    go_wp2_with fail
    go_region_with (go_at_call 40; refine (Hnd.out _).mono ?_; rintro e w1 ⟨rfl, rfl⟩)
    go_wp2
    go_ret
    exact ⟨rfl, ((HS1.out (.cells (ac (UInt8.ofNat k :: zl)) 60)).drew).setRow _ _ hge⟩
  · rw [hs] at hhe h0
    have hc1 := hcp (UInt8.ofNat (k + 64))
    have hf1 := fin (UInt8.ofNat (k + 64)) (by rw [hhe]; simp)
    have e3 := head_set (UInt8.ofNat k) (k + 64) (by simp at hhe; omega)
    rw [show ((k + 64 : Nat) : Int) = (k : Int) + 64 by omega] at e3
    clear hcp fin
    generalize UInt8.ofNat (k + 64) = T at *
    go_wp2_with fail
    go_region_with (go_at_call 40; refine (Hnd.out _).mono ?_; rintro e w1 ⟨rfl, rfl⟩)
    go_wp2
    go_ret
    exact ⟨rfl, ((HS1.out (.cells (ac (T :: zl)) 60)).drew).setRow _ _ hge⟩
end Go.Proofs.YtabniphnmlbkfaaDoor
