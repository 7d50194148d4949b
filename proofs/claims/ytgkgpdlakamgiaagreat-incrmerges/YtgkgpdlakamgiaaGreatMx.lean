/- Proved: several texts in one: what Bytes of prefix and of the document answer; what Bytes of the document answers; what prefix's own reading of a prefix (take) answers, and what becomes of memory; what Read of prefix answers, and what becomes of memory; what Read of the document answers, and what becomes of memory. Each with its conditions where it stands. -/
import Derived.Test.YtgkgpdlakamgiaaGreatMv
import Derived.Laws.IdiomStrings
import Derived.Laws.MakeOwn

/- Proved: what Bytes of prefix and of the document answer. Condition: an address has sixteen bytes. -/
namespace Go.Proofs.YtgkgpdlakamgiaaGreat
open Go.RowKit

def headN (p : Px) : Nat := p.len.toNat + (if p.six then 64 else 0)
def bytesL (p : Px) : List UInt8 := UInt8.ofNat (headN p) :: p.addr.take (needN p.len.toNat)
theorem info60 : (Tryz.prog.info? 119).map (fun i => (i.zero, i.size)) = some (some (.agg (ac (0 :: zl))), 17) := by kernel_rfl
theorem conv_bytes {w : World} {b : Nat} {t : TypeId} {fz : Nat × Nat} (L : List UInt8) (h : w.heap[b]? = some (.cells (ac L) t fz)) (n : Nat) (hn : n ≤ L.length) (cap : Nat) : (convert 114 9 (.slice (some ⟨b, 0, none⟩) n cap)).run Tryz.prog w = .ok (.string ⟨(L.take n).toArray⟩) w := by
  have := run_convert_bytes_back (P := Tryz.prog) w 114 9 5 ⟨b, 0, none⟩ cap (L.take n) Tryz.underlying114 Tryz.underlying5 Tryz.underlying9 (by
    intro j hj
    have hadd : (⟨b, 0, none⟩ : Addr).add j = ⟨b, j, none⟩ := by unfold Addr.add; split <;> simp_all
    rw [hadd]
    have hj2 : j < L.length := by simp at hj; omega
    rw [cell_obj h (ac_get L j hj2)]
    simp)
  rwa [List.length_take, Nat.min_eq_left hn] at this
theorem cutp (b m : Nat) (h : m ≤ 16) (w : World) : (Instr.sliceAt 52 (.pointer (some ⟨b, 1, none⟩)) none (some (.int .i64 m)) none).run Tryz.prog w = .ok (.slice (some ⟨b, 1, none⟩) m 16) w := by
  have hn : Tryz.prog.arrayLen 52 = 16 := by kernel_rfl
  have he : Tryz.prog.elem 52 = 5 := by kernel_rfl
  have := run_sliceAt_array_h (P := Tryz.prog) w 52 ⟨b, 1, none⟩ (by kernel_rfl) .i64 (m : Int) (by omega) (by omega)
  rw [this, he, Tryz.sizeOf5 w]
  simp [slicedAt, hn, Addr.add]
theorem cut17 (b m : Nat) (h : m ≤ 17) (w : World) : (Instr.sliceAt 119 (.pointer (some ⟨b, 0, none⟩)) none (some (.int .i64 m)) none).run Tryz.prog w = .ok (.slice (some ⟨b, 0, none⟩) m 17) w := by
  have hn : Tryz.prog.arrayLen 119 = 17 := by kernel_rfl
  have he : Tryz.prog.elem 119 = 5 := by kernel_rfl
  have := run_sliceAt_array_h (P := Tryz.prog) w 119 ⟨b, 0, none⟩ (by kernel_rfl) .i64 (m : Int) (by omega) (by omega)
  rw [this, he, Tryz.sizeOf5 w]
  simp [slicedAt, hn, Addr.add]
theorem from17 (b : Nat) (w : World) : (Instr.sliceAt 119 (.pointer (some ⟨b, 0, none⟩)) (some (.int .i64 1)) none none).run Tryz.prog w = .ok (.slice (some ⟨b, 1, none⟩) 16 16) w := by
  have hn : Tryz.prog.arrayLen 119 = 17 := by kernel_rfl
  have he : Tryz.prog.elem 119 = 5 := by kernel_rfl
  have := run_sliceAt_array_l (P := Tryz.prog) w 119 ⟨b, 0, none⟩ (by kernel_rfl) .i64 1 (by omega) (by omega)
  rw [this, he, Tryz.sizeOf5 w]
  simp [slicedAt, hn, Addr.add]
theorem copy17 (w : World) (g b m : Nat) (p : Px) (c : UInt8) (hm : m ≤ 16) (hg : w.heap[g]? = some (.cells (ac (c :: zl)) 119 (0, 0))) (hb : At w b p) :
    (Builtin.copy_ #[114, 114] 3 #[.slice (some ⟨g, 1, none⟩) 16 16, .slice (some ⟨b, 1, none⟩) m 16]).run Tryz.prog w = .ok (.int .i64 m) (w.setRow g (ac (c :: padL (p.addr.take m)))) := by
  have hl := hb.len
  have hlen : ((p.addr.take m).map bv).length = m := by simp; omega
  have h := run_copy_row (P := Tryz.prog) w 114 114 3 5 g 1 16 16 ⟨b, 1, none⟩ m 16 (ac (c :: zl)) 119 ((p.addr.take m).map bv) Tryz.underlying114 info5 hg (by rw [hlen]; exact (Nat.min_eq_left hm).symm)
    (fun j v hv => by
      have hadd : (⟨b, 1, none⟩ : Addr).add j = ⟨b, 1 + j, none⟩ := by unfold Addr.add; split <;> simp_all
      have hj : j < m := by have := (List.getElem?_eq_some_iff.1 hv).1; omega
      have hj2 : j < p.addr.length := by omega
      rw [hadd, hb.byte j (by omega), ← hv]
      simp [hj, hj2, bv]) (by rw [hlen, ac_size]; simp [zl]; omega) (fun v hv => by
      simp only [List.mem_map] at hv
      obtain ⟨c, _, rfl⟩ := hv
      rfl)
  rw [h, hlen]
  have e : ((ac (c :: zl)).toList.take 1 ++ (p.addr.take m).map bv ++ (ac (c :: zl)).toList.drop (1 + m)).toArray = ac (c :: padL (p.addr.take m)) := by
    unfold ac padL zl
    refine congrArg _ ?_
    have e2 : List.map bv (c :: List.take 16 (List.take m p.addr ++ List.replicate 16 0)) = bv c :: List.take 16 (List.map bv (List.take m p.addr) ++ List.map bv (List.replicate 16 0)) := by rw [List.map_cons, List.map_take (i := 16), List.map_append]
    rw [e2]
    simp only [List.map_cons]
    generalize hM : List.map bv (List.take m p.addr) = M at *
    rw [List.map_replicate, List.take_succ_cons, List.take_zero, Nat.add_comm 1 m, List.drop_succ_cons, List.drop_replicate, List.take_append, List.take_of_length_le (by omega), hlen, List.take_replicate, Nat.min_eq_left (by omega)]
    simp
  rw [e]
  rfl

theorem head_set (c : UInt8) (k : Nat) (hk : k < 256) : (ac (c :: zl)).setIfInBounds 0 (.int .u8 (k : Nat)) = ac (UInt8.ofNat k :: zl) := by
  rw [ac_set _ _ _ hk]
  rfl
theorem head_get (k : Nat) (hk : k < 256) : (ac (UInt8.ofNat k :: zl))[0]? = some (.int .u8 (k : Nat)) := by
  rw [ac_get _ 0 (by simp)]
  simp [Nat.mod_eq_of_lt hk]

set_option maxRecDepth 100000 in
theorem bytes_no (p : Px) (hp : p.addr.length = 16) (hr : ¬ rightP p) : Gives Tryz.prog 27 #[.agg (pc p)] (.string ⟨#[]⟩) := by
  intro w
  obtain ⟨hA, hS⟩ := one_at w p hp
  have HR := Lib.hid (right p hp)
  rw [decide_eq_false hr] at HR
  obtain ⟨n2, hn2⟩ : ∃ n, n = 18 := ⟨18, rfl⟩
  have hsz2 : ∀ w, (Go.sizeOf 54).run Tryz.prog w = .ok n2 w := fun w => by rw [hn2]; exact Tryz.sizeOf54 w
  have hw := hA.whole hn2
  have HS := Lib.hid hS
  clear hA hS hn2
  go_enter Tryz.func27, Tryz.ntmps27
  go_wp2_with fail
  refine (HR.out _).mono ?_
  rintro e w1 ⟨rfl, b1⟩
  go_wp2
  go_ret
  exact ⟨rfl, HS.out.trans b1⟩

theorem head_lt (p : Px) (h : rightP p) : headN p < 256 := by
  have h1 := h.2.1
  unfold headN
  cases hs : p.six
  · rw [hs] at h1; simp [sizeN] at h1 ⊢; omega
  · rw [hs] at h1; simp [sizeN] at h1 ⊢; omega

set_option maxRecDepth 100000 in
theorem bytes_ok (p : Px) (hp : p.addr.length = 16) (hr : rightP p) : Gives Tryz.prog 27 #[.agg (pc p)] (.string ⟨(bytesL p).toArray⟩) := by
  intro w
  obtain ⟨hA, hS⟩ := one_at w p hp
  obtain ⟨hz, hi⟩ := zero_of_info info60
  have HR := Lib.hid (right p hp)
  rw [decide_eq_true hr] at HR
  obtain ⟨n2, hn2⟩ : ∃ n, n = 18 := ⟨18, rfl⟩
  have hsz2 : ∀ w, (Go.sizeOf 54).run Tryz.prog w = .ok n2 w := fun w => by rw [hn2]; exact Tryz.sizeOf54 w
  obtain ⟨n1, hn1⟩ : ∃ n, n = 16 := ⟨16, rfl⟩
  have hsz1 : ∀ w, (Go.sizeOf 52).run Tryz.prog w = .ok n1 w := fun w => by rw [hn1]; exact Tryz.sizeOf52 w
  have hn0 : ¬ n1 = 0 := by omega
  obtain ⟨k, hk⟩ : ∃ k : Nat, p.len = k := ⟨p.len.toNat, by have := hr.1; omega⟩
  have hk2 : k ≤ 128 := by have := hr.2.1; have := sizeN_le p.six; omega
  have hhd := head_lt p hr
  have hhe : headN p = k + (if p.six then 64 else 0) := by unfold headN; rw [hk, Int.toNat_natCast]
  have Hby := Lib.hid (show bytesL p = UInt8.ofNat (headN p) :: p.addr.take (needN k) by unfold bytesL; rw [hk, Int.toNat_natCast])
  have hm : needN k ≤ 16 := by unfold needN; omega
  have Hnd := Lib.hid (need_at k hk2)
  have hw := hA.whole hn2
  have HA := Lib.hid hA
  have HS := Lib.hid hS
  have HK := Lib.hid hk
  clear hA hS hn2 hn1 hi hr hk
  generalize needN k = m at *
  go_enter Tryz.func27, Tryz.ntmps27
  go_wp2_with fail
  refine (HR.out _).mono ?_
  rintro e w1 ⟨rfl, b1⟩
  have HA1 := Lib.hid (fun o => HA.out.mono (b1.alloc o))
  have h0 := fun o => (HA1.out o).six
  have h17 := fun o => (HA1.out o).bits
  rw [HK.out] at h17
  have hne : w.heap.size ≠ w1.heap.size := by
    have := b1.size
    have h : (w.alloc (.cells (pc p) 54)).heap.size = w.heap.size + 1 := by simp
    omega
  have hge : w.heap.size ≤ w1.heap.size := (HS.out.trans b1).size
  have HS1 := Lib.hid (fun o => (HS.out.trans b1).alloc o)
  have e1 := head_set 0 k (by omega)
  have e2 := head_get k (by omega)
  have hsl := fun b w => cutp b m hm w
  have hfr := from17
  have hct : ∀ b w, (Instr.sliceAt 119 (.pointer (some ⟨b, 0, none⟩)) none (some (.int .i64 (1 + (m : Int)))) none).run Tryz.prog w = .ok (.slice (some ⟨b, 0, none⟩) (1 + m) 17) w := fun b w => by
    have := cut17 b (1 + m) (by omega) w
    simpa using this
  clear hw HA HS b1
  have fin : ∀ c : UInt8, c = UInt8.ofNat (headN p) → (convert 114 9 (.slice (some ⟨w1.heap.size, 0, none⟩) (1 + m) 17)).run Tryz.prog ((w1.alloc (.cells (ac (c :: zl)) 119)).drew.setRow w1.heap.size (ac (c :: padL (p.addr.take m)))) = .ok (.string ⟨(bytesL p).toArray⟩) ((w1.alloc (.cells (ac (c :: zl)) 119)).drew.setRow w1.heap.size (ac (c :: padL (p.addr.take m)))) := fun c hc => by
    have := conv_bytes (c :: padL (p.addr.take m)) (block_row (w := (w1.alloc (.cells (ac (c :: zl)) 119)).drew) (heap_alloc_last w1 (.cells (ac (c :: zl)) 119)) (ac (c :: padL (p.addr.take m)))) (1 + m) (by simp [padL_len]; omega) 17
    rw [this, Hby.out, ← hc]
    have e : List.take (1 + m) (c :: padL (p.addr.take m)) = c :: p.addr.take m := by
      rw [Nat.add_comm, List.take_succ_cons]
      unfold padL
      rw [List.take_take, Nat.min_eq_left hm]
      exact congrArg _ (List.take_left' (by simp [hp]; omega))
    rw [e]
  have hcp := fun c => copy17 (w1.alloc (.cells (ac (c :: zl)) 119)).drew w1.heap.size w.heap.size m p c hm (heap_alloc_last w1 _) ((HA1.out (.cells (ac (c :: zl)) 119)).mono (Same.refl _).drew)
  cases hs : p.six
  · rw [hs] at hhe h0
    have hc1 := hcp (UInt8.ofNat k)
    have hf1 := fin (UInt8.ofNat k) (by rw [hhe]; simp)
    clear hcp fin
    go_wp2_with fail
    go_region_with (go_at_call 61; refine (Hnd.out _).mono ?_; rintro e w1 ⟨rfl, rfl⟩)
    go_wp2
    go_ret
    exact ⟨rfl, ((HS1.out (.cells (ac (UInt8.ofNat k :: zl)) 119)).drew).setRow _ _ hge⟩
  · rw [hs] at hhe h0
    have hc1 := hcp (UInt8.ofNat (k + 64))
    have hf1 := fin (UInt8.ofNat (k + 64)) (by rw [hhe]; simp)
    have e3 := head_set (UInt8.ofNat k) (k + 64) (by simp at hhe; omega)
    rw [show ((k + 64 : Nat) : Int) = (k : Int) + 64 by omega] at e3
    clear hcp fin
    generalize UInt8.ofNat (k + 64) = T at *
    go_wp2_with fail
    go_region_with (go_at_call 61; refine (Hnd.out _).mono ?_; rintro e w1 ⟨rfl, rfl⟩)
    go_wp2
    go_ret
    exact ⟨rfl, ((HS1.out (.cells (ac (T :: zl)) 119)).drew).setRow _ _ hge⟩
end Go.Proofs.YtgkgpdlakamgiaaGreat

/- Proved: what Bytes of the document answers. Condition: an address has sixteen bytes; the prefix may be. -/
namespace Go.Proofs.YtgkgpdlakamgiaaGreat
open Go.RowKit

theorem info5b : (Tryz.prog.info? 5).map (fun i => (i.zero, i.size, i.bytes)) = some (some (.int .u8 0), 1, 1) := by kernel_rfl
theorem conv_own {w : World} {B : Nat} {v : Value} {n : Nat} (L : List UInt8) (h : w.ownsRow B 5 1 v n (L.map bv)) : (convert 114 9 v).run Tryz.prog w = .ok (.string ⟨L.toArray⟩) w := by
  obtain ⟨h1, h2⟩ := h
  have hl : L.length = n := by simpa using h1
  rcases h2 with ⟨rfl, hn⟩ | ⟨g, cap, cur, rfl, hb, hg, h3, h4, h5, h6⟩
  · have : L = [] := List.eq_nil_of_length_eq_zero (by omega)
    subst this
    rw [run_convert_bytes_nil w 114 5 Tryz.underlying114 Tryz.underlying5 0 0 9 Tryz.underlying9]
    rfl
  · rw [← hl]
    refine run_convert_bytes_back (P := Tryz.prog) w 114 9 5 ⟨g, 0, none⟩ cap L Tryz.underlying114 Tryz.underlying5 Tryz.underlying9 ?_
    intro j hj
    have hadd : (⟨g, 0, none⟩ : Addr).add j = ⟨g, j, none⟩ := by unfold Addr.add; split <;> simp_all
    rw [hadd]
    refine cell_obj hg ?_
    have h8 : (cur.toList.take (n * 1))[j]? = cur.toList[j]? := List.getElem?_take_of_lt (by omega)
    rw [h6] at h8
    have : cur[j]? = cur.toList[j]? := by simp
    rw [this, ← h8]
    simp [hj, bv]

theorem At.lt {w : World} {b : Nat} {p : Px} (h : At w b p) : b + 1 ≤ w.heap.size := by
  rcases Nat.lt_or_ge b w.heap.size with h1 | h1
  · exact h1
  · have := h.block
    rw [Array.getElem?_eq_none h1] at this
    cases this
theorem Keep.trans_below {w wr w1 : World} (h : Keep w wr) (k : Below (w.heap.size + 1) wr w1) : Keep w w1 :=
  Below.trans h ⟨k.1, k.2, k.3, k.4, fun i hi => k.5 i (by omega)⟩
theorem take_more (h : UInt8) (l : List UInt8) (j : Nat) (hj : j < l.length) : (h :: l.take (j + 1)).map bv = (h :: l.take j).map bv ++ [.int .u8 ((l.getD j 0).toNat : Nat)] := by
  rw [List.take_add_one, List.getElem?_eq_getElem hj, Option.toList_some, ← List.cons_append, List.map_append]
  simp [hj, bv]
def QBRel (w : World) (p : Px) (lv i : Value) (wr : World) : Prop :=
  ∃ k : Nat, i = .int .i64 k ∧ k ≤ needN p.len.toNat ∧ wr.ownsRow (w.heap.size + 1) 5 1 lv (1 + k) ((UInt8.ofNat (headN p) :: p.addr.take k).map bv) ∧ At wr w.heap.size p ∧ Keep w wr

set_option maxRecDepth 100000 in
set_option maxHeartbeats 400000 in
theorem qbytes (p : Px) (hp : p.addr.length = 16) (hr : rightP p) : GivesK Tryz.prog 65 #[.agg (pc p)] (.string ⟨(bytesL p).toArray⟩) := by
  intro w
  obtain ⟨hA, hS⟩ := one_at w p hp
  obtain ⟨i0, hi, hz0, hz1, hz2⟩ := info_parts info5b
  obtain ⟨n1, hn1⟩ : ∃ n, n = 16 := ⟨16, rfl⟩
  have hsz1 : ∀ w, (Go.sizeOf 52).run Tryz.prog w = .ok n1 w := fun w => by rw [hn1]; exact Tryz.sizeOf52 w
  have hn0 : ¬ n1 = 0 := by omega
  obtain ⟨k, hk⟩ : ∃ k : Nat, p.len = k := ⟨p.len.toNat, by have := hr.1; omega⟩
  have hk2 : k ≤ 128 := by have := hr.2.1; have := sizeN_le p.six; omega
  have hhd := head_lt p hr
  have hhe : headN p = k + (if p.six then 64 else 0) := by unfold headN; rw [hk, Int.toNat_natCast]
  have Hby := Lib.hid (show bytesL p = UInt8.ofNat (headN p) :: p.addr.take (needN k) by unfold bytesL; rw [hk, Int.toNat_natCast])
  have h0 := hA.six
  have h17 := hA.bits
  rw [hk] at h17
  have HA := Lib.hid hA
  have HS := Lib.hid hS
  have HK := Lib.hid hk
  clear hA hS hn1 hr hk
  obtain ⟨hv, hhv⟩ : ∃ hv : Nat, hv = headN p := ⟨_, rfl⟩
  have start : ∀ lv, lv = Value.slice (some ⟨w.heap.size + 1, 0, none⟩) 1 1 → QBRel w p lv (.int .i64 0) ((w.alloc (.cells (pc p) 54)).alloc (.cells #[.int .u8 (headN p : Nat)] 5)) := fun lv hlv => by
    have hs : (w.alloc (.cells (pc p) 54)).heap.size = w.heap.size + 1 := by simp
    refine ⟨0, rfl, by omega, ⟨by simp, .inr ⟨w.heap.size + 1, 1, #[.int .u8 (headN p : Nat)], hlv, Nat.le_refl _, by rw [← hs]; exact heap_alloc_last _ _, by omega, by unfold maxLen; omega, rfl, ?_⟩⟩, HA.out.mono ((Same.refl _).alloc _), HS.out.keep.alloc _⟩
    simp [bv, Nat.mod_eq_of_lt hhd]
  have Hst := Lib.hid start
  clear start
  cases hs : p.six
  · rw [hs] at h0 hhe
    simp at hhe
    rw [hhe] at Hst
    go_enter Tryz.func65, Tryz.ntmps65
    go_wp2
    go_loopw [4, 5] (fun lv i wr => QBRel w p lv i wr) (fun _ i _ => 17 - (intOf i).toNat)
    case atStart => exact Hst.out _ rfl
    case round =>
      obtain ⟨j, rfl, hj, hown, hA, hsame⟩ := hrel
      rw [HK.out, Int.toNat_natCast] at hj
      have e17 := hA.bits
      rw [HK.out] at e17
      have HAr := Lib.hid hA
      have HSr := Lib.hid hsame
      clear hA hsame h0 h17 Hst
      by_cases h8 : 8 * j < k
      · have hj16 : j < 16 := by omega
        have hb := HAr.out.byte j hj16
        have hlt : (p.addr.getD j 0).toNat < 256 := UInt8.toNat_lt _
        have HL := Lib.hid (take_more (UInt8.ofNat (headN p)) p.addr j (by omega))
        generalize (UInt8.ofNat (headN p) :: p.addr.take j).map bv = ys at *
        generalize (p.addr.getD j 0).toNat = c at *
        have hbs := HSr.out.size
        go_wp2_with (at_builtin; refine wpList_append_own _ rfl _ _ 114 rfl (w.heap.size + 1) 5 i0 (.int .u8 0) 1 1 Tryz.underlying114 hi hz0 hz1 hz2 rfl (by decide) _ _ _ rfl (hown.alloc _) ⟨wr.heap.size, 0, none⟩ 1 1 [.int .u8 (c : Int)] rfl rfl (cell_one_new _ _ _) ?c2 ?c3 ?c4 ?c5 ?_)
        case c2 => intro u hu; simp at hu; subst hu; rfl
        case c3 => unfold maxLen; omega
        case c4 => omega
        case c5 => have := HAr.out.lt; simp; omega
        · intro v' w1 hown' hgrow _
          have hb1 : Below (w.heap.size + 1) wr w1 := (Below.alloc (Below.refl _ _) HAr.out.lt _).grown hgrow (by have := HAr.out.lt; simp; omega) (fun k hk => (hown.lt k hk).1)
          have Hrel := Lib.hid (show QBRel w p v' (.int .i64 (j + 1 : Nat)) w1 from ⟨j + 1, rfl, by rw [HK.out, Int.toNat_natCast]; unfold needN; omega, by rw [HL.out, ← Nat.add_assoc]; exact hown', ⟨by rw [hb1.block _ (by omega)]; exact HAr.out.block, hp⟩, Keep.trans_below HSr.out hb1⟩)
          clear hown' hgrow
          go_wp2
          go_roundw
          case rel => exact Hrel.out
          case measure => simp [intOf]; omega
      · have hjn : j = needN k := by unfold needN at hj ⊢; omega
        have hcv := conv_own _ hown
        rw [hjn, ← Hby.out] at hcv
        have hjb : j ≤ 16 := by unfold needN at hj; omega
        clear hown Hby hjn hj
        go_wp2
        go_ret
        exact ⟨rfl, HSr.out⟩
  · rw [hs] at h0 hhe
    simp at hhe
    rw [hhe, show ((k + 64 : Nat) : Int) = (k : Int) + 64 by omega] at Hst
    go_enter Tryz.func65, Tryz.ntmps65
    go_wp2
    go_loopw [4, 5] (fun lv i wr => QBRel w p lv i wr) (fun _ i _ => 17 - (intOf i).toNat)
    case atStart => exact Hst.out _ rfl
    case round =>
      obtain ⟨j, rfl, hj, hown, hA, hsame⟩ := hrel
      rw [HK.out, Int.toNat_natCast] at hj
      have e17 := hA.bits
      rw [HK.out] at e17
      have HAr := Lib.hid hA
      have HSr := Lib.hid hsame
      clear hA hsame h0 h17 Hst
      by_cases h8 : 8 * j < k
      · have hj16 : j < 16 := by omega
        have hb := HAr.out.byte j hj16
        have hlt : (p.addr.getD j 0).toNat < 256 := UInt8.toNat_lt _
        have HL := Lib.hid (take_more (UInt8.ofNat (headN p)) p.addr j (by omega))
        generalize (UInt8.ofNat (headN p) :: p.addr.take j).map bv = ys at *
        generalize (p.addr.getD j 0).toNat = c at *
        have hbs := HSr.out.size
        go_wp2_with (at_builtin; refine wpList_append_own _ rfl _ _ 114 rfl (w.heap.size + 1) 5 i0 (.int .u8 0) 1 1 Tryz.underlying114 hi hz0 hz1 hz2 rfl (by decide) _ _ _ rfl (hown.alloc _) ⟨wr.heap.size, 0, none⟩ 1 1 [.int .u8 (c : Int)] rfl rfl (cell_one_new _ _ _) ?c2 ?c3 ?c4 ?c5 ?_)
        case c2 => intro u hu; simp at hu; subst hu; rfl
        case c3 => unfold maxLen; omega
        case c4 => omega
        case c5 => have := HAr.out.lt; simp; omega
        · intro v' w1 hown' hgrow _
          have hb1 : Below (w.heap.size + 1) wr w1 := (Below.alloc (Below.refl _ _) HAr.out.lt _).grown hgrow (by have := HAr.out.lt; simp; omega) (fun k hk => (hown.lt k hk).1)
          have Hrel := Lib.hid (show QBRel w p v' (.int .i64 (j + 1 : Nat)) w1 from ⟨j + 1, rfl, by rw [HK.out, Int.toNat_natCast]; unfold needN; omega, by rw [HL.out, ← Nat.add_assoc]; exact hown', ⟨by rw [hb1.block _ (by omega)]; exact HAr.out.block, hp⟩, Keep.trans_below HSr.out hb1⟩)
          clear hown' hgrow
          go_wp2
          go_roundw
          case rel => exact Hrel.out
          case measure => simp [intOf]; omega
      · have hjn : j = needN k := by unfold needN at hj ⊢; omega
        have hcv := conv_own _ hown
        rw [hjn, ← Hby.out] at hcv
        have hjb : j ≤ 16 := by unfold needN at hj; omega
        clear hown Hby hjn hj
        go_wp2
        go_ret
        exact ⟨rfl, HSr.out⟩
end Go.Proofs.YtgkgpdlakamgiaaGreat

/- Proved: what prefix's own reading of a prefix (take) answers, and what becomes of memory. Condition: the reader's two cells are known (Rd). -/
namespace Go.Proofs.YtgkgpdlakamgiaaGreat
open Go.RowKit

def sixOf (c : Nat) : Bool := decide (64 ≤ c)
def lenOf (c : Nat) : Nat := if 64 ≤ c then c - 64 else c
/-- What is read behind the first byte: the prefix or none, what is wrong, what is left. -/
def tailF (c : Nat) (l : List UInt8) (x : Int) : Px × Int × List UInt8 × Int :=
  if fitsB (sixOf c) (lenOf c : Nat) then
    if (V.rawF l x (needN (lenOf c) : Nat)).2.2 = 0 then
      if rightP ⟨sixOf c, padL (V.rawF l x (needN (lenOf c) : Nat)).1, (lenOf c : Nat)⟩ then
        (⟨sixOf c, padL (V.rawF l x (needN (lenOf c) : Nat)).1, (lenOf c : Nat)⟩, 0, (V.rawF l x (needN (lenOf c) : Nat)).2.1, 0)
      else (zeroP, 4, (V.rawF l x (needN (lenOf c) : Nat)).2.1, 0)
    else (zeroP, (V.rawF l x (needN (lenOf c) : Nat)).2.2, (V.rawF l x (needN (lenOf c) : Nat)).2.1, (V.rawF l x (needN (lenOf c) : Nat)).2.2)
  else (zeroP, 4, l, x)
def takeF (l : List UInt8) (x : Int) : Px × Int × List UInt8 × Int := tailF (V.byteF l x).1.toNat (V.byteF l x).2.1 (V.byteF l x).2.2

theorem At.setSix {w : World} {b : Nat} {p : Px} (h : At w b p) (s : Bool) : At (w.setCell ⟨b, 0, none⟩ (.bool s)) b ⟨s, p.addr, p.len⟩ := ⟨by rw [block_set h.block, set_six], h.len⟩
theorem At.setLen {w : World} {b : Nat} {p : Px} (h : At w b p) (n : Int) : At (w.setCell ⟨b, 17, none⟩ (.int .i64 n)) b ⟨p.six, p.addr, n⟩ := ⟨by rw [block_set h.block, set_len p h.len], h.len⟩
theorem At.free {w : World} {b : Nat} {p : Px} (h : At w b p) (i : Nat) : w.frozen? ⟨b, i, none⟩ = false := by simp [World.frozen?, h.block]
theorem At.only {w w' : World} {b g : Nat} {p : Px} (h : At w b p) (k : Only g w w') (hg : b ≠ g) : At w' b p := ⟨by rw [k.block b h.lt hg]; exact h.block, h.len⟩
theorem At.row {w : World} {b : Nat} {p : Px} (h : At w b p) (g : Nat) (c : Array Value) (hg : b ≠ g) : At (w.setRow g c) b p := ⟨setRow_old h.block g c hg, h.len⟩
theorem Rd.same {w w' : World} {b : Nat} {l : List UInt8} {x : Int} (h : Rd w b l x) (k : Same w w') : Rd w' b l x := h.below k.toBelow
theorem Only.same {b : Nat} {w w' : World} (k : Same w w') : Only b w w' := ⟨k.os, k.tape, k.output, k.size, fun i hi _ => k.block i hi⟩
theorem zl_len : zl.length = 16 := rfl
theorem copy_addr (w : World) (g : Nat) (l : List UInt8) (p : Px) (hl : l.length ≤ 16) (hp : p.addr = zl) (hg : At w g p) :
    (Builtin.copy_ #[114, 9] 3 #[.slice (some ⟨g, 1, none⟩) 16 16, .string ⟨l.toArray⟩]).run Tryz.prog w = .ok (.int .i64 l.length) (w.setRow g (pc ⟨p.six, padL l, p.len⟩)) := by
  have hs : (⟨l.toArray⟩ : ByteArray).size = l.length := by simp [ByteArray.size]
  have h := Lib.run_copy_row_string (P := Tryz.prog) w 114 9 3 5 g 1 16 16 ⟨l.toArray⟩ (pc p) 54 Tryz.underlying114 info5 hg.block (by omega) (by rw [pc_size p hg.len, hs]; omega)
  rw [h, hs]
  have e : ((pc p).toList.take 1 ++ Lib.byteCells (⟨l.toArray⟩ : ByteArray).data.toList ++ (pc p).toList.drop (1 + l.length)).toArray = pc ⟨p.six, padL l, p.len⟩ := by
    unfold pc padL
    rw [hp]
    refine congrArg _ ?_
    have e3 : Lib.byteCells (⟨l.toArray⟩ : ByteArray).data.toList = List.map bv l := rfl
    have e2 : List.map bv (List.take 16 (l ++ List.replicate 16 0)) = List.take 16 (List.map bv l ++ List.map bv (List.replicate 16 0)) := by rw [List.map_take, List.map_append]
    rw [e3, e2]
    simp only
    have hlen : (List.map bv l).length = l.length := by simp
    generalize List.map bv l = M at *
    unfold zl
    rw [List.map_replicate, List.take_succ_cons, List.take_zero, Nat.add_comm 1, List.drop_succ_cons, List.take_append, List.take_of_length_le (by omega), hlen, List.take_replicate, Nat.min_eq_left (by omega), List.drop_append, List.drop_replicate]
    simp [show l.length - 16 = 0 by omega]
  rw [e]
  rfl
theorem Only.rowNew {b : Nat} {u v : World} (h : Only b u v) (g : Nat) (c : Array Value) (hg : u.heap.size ≤ g) : Only b u (v.setRow g c) :=
  ⟨h.os, h.tape, h.output, by have := h.size; simpa [World.setRow] using this, fun i hi hb => by
    rw [← h.block i hi hb]
    simp only [World.setRow, Array.getElem?_modify]
    rw [if_neg (by omega)]⟩
theorem Only.cellNew {b : Nat} {u v : World} (h : Only b u v) (g i : Nat) (x : Value) (hg : u.heap.size ≤ g) : Only b u (v.setCell ⟨g, i, none⟩ x) :=
  ⟨h.os, h.tape, h.output, by have := h.size; simpa [World.setCell] using this, fun k hk hb => (Below.heap_setCell _ _ _ _ (by show k ≠ g; omega)).trans (h.block k hk hb)⟩
theorem Only.allocNew {b : Nat} {u v : World} (h : Only b u v) (o : Obj) : Only b u (v.alloc o) := h.trans (Only.same ((Same.refl v).alloc o))
theorem Only.drewNew {b : Nat} {u v : World} (h : Only b u v) : Only b u v.drew := ⟨h.os, h.tape, h.output, h.size, h.block⟩
theorem Rd.row {w : World} {b : Nat} {l : List UInt8} {x : Int} (h : Rd w b l x) (g : Nat) (c : Array Value) (hg : b ≠ g) : Rd (w.setRow g c) b l x :=
  h.other (c := g) ⟨rfl, rfl, rfl, by simp [World.setRow], fun i hi hb => by
    simp only [World.setRow, Array.getElem?_modify]
    rw [if_neg (Ne.symm hb)]⟩ hg h.lt
theorem Rd.cell {w : World} {b : Nat} {l : List UInt8} {x : Int} (h : Rd w b l x) (g i : Nat) (v : Value) (hg : b ≠ g) : Rd (w.setCell ⟨g, i, none⟩ v) b l x := h.other (Only.setCell g i w v) hg h.lt

def TakePost (b : Nat) (w : World) (q : Px × Int × List UInt8 × Int) (e : Ending) (w' : World) : Prop :=
  e = .returned (.tuple #[.agg (pc q.1), .int .i64 q.2.1]) ∧ Rd w' b q.2.2.1 q.2.2.2 ∧ Only b w w'

/-- All that the second half of take leans on: a result's block, the prefix's block, the reader. -/
structure Ready (w w3 : World) (b r g : Nat) (p : Px) (l : List UInt8) (x : Int) : Prop where
  res : At w3 r zeroP
  pre : At w3 g p
  rd : Rd w3 b l x
  only : Only b w w3
  rb : r ≠ b
  gb : g ≠ b
  rg : r ≠ g
  rn : w.heap.size ≤ r
  gn : w.heap.size ≤ g

theorem Ready.mono {w w3 w4 : World} {b r g : Nat} {p : Px} {l : List UInt8} {x : Int} (h : Ready w w3 b r g p l x) (k : Same w3 w4) : Ready w w4 b r g p l x :=
  ⟨h.res.mono k, h.pre.mono k, h.rd.same k, h.only.trans (Only.same k), h.rb, h.gb, h.rg, h.rn, h.gn⟩
theorem Ready.drew {w w3 : World} {b r g : Nat} {p : Px} {l : List UInt8} {x : Int} (h : Ready w w3 b r g p l x) : Ready w w3.drew b r g p l x := h.mono (Same.refl w3).drew
theorem Ready.read {w w3 w4 : World} {b r g : Nat} {p : Px} {l m : List UInt8} {x y : Int} (h : Ready w w3 b r g p l x) (hr : Rd w4 b m y) (k : Only b w3 w4) : Ready w w4 b r g p m y :=
  ⟨h.res.only k h.rb, h.pre.only k h.gb, hr, h.only.trans k, h.rb, h.gb, h.rg, h.rn, h.gn⟩
theorem Ready.fill {w w3 : World} {b r g : Nat} {p : Px} {l : List UInt8} {x : Int} (h : Ready w w3 b r g p l x) (q : Px) (hq : q.addr.length = 16) : Ready w (w3.setRow g (pc q)) b r g q l x :=
  ⟨h.res.row _ _ h.rg, h.pre.put q hq, h.rd.row _ _ (Ne.symm h.gb), h.only.rowNew _ _ h.gn, h.rb, h.gb, h.rg, h.rn, h.gn⟩
theorem Ready.turn {w w3 : World} {b r g : Nat} {p : Px} {l : List UInt8} {x : Int} (h : Ready w w3 b r g p l x) (s : Bool) (n : Int) : Ready w ((w3.setCell ⟨g, 0, none⟩ (.bool s)).setCell ⟨g, 17, none⟩ (.int .i64 n)) b r g ⟨s, p.addr, n⟩ l x :=
  ⟨(h.res.setOther _ _ _ h.rg).setOther _ _ _ h.rg, (h.pre.setSix s).setLen n, (h.rd.cell _ _ _ (Ne.symm h.gb)).cell _ _ _ (Ne.symm h.gb), (h.only.cellNew _ _ _ h.gn).cellNew _ _ _ h.gn, h.rb, h.gb, h.rg, h.rn, h.gn⟩
theorem raw_len (l : List UInt8) (x : Int) (n : Nat) (hn : n ≤ 16) : (V.rawF l x (n : Nat)).1.length ≤ 16 := by
  unfold V.rawF
  split
  · simp
  · split
    · simp
    · split
      · simp
      · simp; omega

set_option maxRecDepth 100000 in
set_option maxHeartbeats 2000000 in
theorem take_at (b : Nat) (l : List UInt8) (x : Int) (w : World) (h : Rd w b l x) : Calls Tryz.prog 90 #[.pointer (some ⟨b, 0, none⟩)] w (TakePost b w (takeF l x)) := by
  obtain ⟨hz, hi⟩ := zero_of_info info24
  have hby := byte_at b l x (w.alloc (.cells (pc zeroP) 54)) (h.same ((Same.refl w).alloc _))
  unfold takeF
  have hbw : b < w.heap.size := h.lt
  generalize (V.byteF l x).2.1 = l1 at *
  generalize (V.byteF l x).2.2 = x1 at *
  have hc : (V.byteF l x).1.toNat < 256 := UInt8.toNat_lt _
  generalize (V.byteF l x).1.toNat = c at *
  obtain ⟨n2, hn2⟩ : ∃ n, n = 18 := ⟨18, rfl⟩
  have hsz2 : ∀ w, (Go.sizeOf 54).run Tryz.prog w = .ok n2 w := fun w => by rw [hn2]; exact Tryz.sizeOf54 w
  obtain ⟨n1, hn1⟩ : ∃ n, n = 16 := ⟨16, rfl⟩
  have hsz1 : ∀ w, (Go.sizeOf 52).run Tryz.prog w = .ok n1 w := fun w => by rw [hn1]; exact Tryz.sizeOf52 w
  have hn0 : ¬ n1 = 0 := by omega
  obtain ⟨hA, hS⟩ := one_at w zeroP zeroP_len
  have HA := Lib.hid hA
  have HS := Lib.hid hS
  have HN2 := Lib.hid hn2
  have HN1 := Lib.hid hn1
  have HB := Lib.hid hby
  clear hA hS hn2 hn1 hi hby h
  go_enter Tryz.func90, Tryz.ntmps90
  go_wp2_with fail
  refine HB.out.mono ?_
  rintro e w2 ⟨rfl, hr2, ho2⟩
  have z1 : (pc zeroP).size = 18 := pc_size _ rfl
  have hne : pc zeroP ≠ #[] := by intro h; rw [h] at z1; simp at z1
  have f3 := set_len zeroP rfl c
  have hA2 : At (w2.alloc (.cells (pc zeroP) 54)) w2.heap.size zeroP := (one_at w2 zeroP rfl).1
  have z4 : (pc ⟨zeroP.six, zeroP.addr, c⟩).size = n2 := by rw [HN2.out]; exact pc_size _ rfl
  have hst := hA2.store ⟨zeroP.six, zeroP.addr, c⟩ rfl
  have hs1 : (w.alloc (.cells (pc zeroP) 54)).heap.size = w.heap.size + 1 := by simp
  have hs2 := ho2.size
  have HR3 := Lib.hid (show Ready w ((w2.alloc (.cells (pc zeroP) 54)).setRow w2.heap.size (pc ⟨zeroP.six, zeroP.addr, c⟩)) b w.heap.size w2.heap.size ⟨false, zl, c⟩ l1 x1 from
    ⟨((HA.out.only ho2 (by omega)).mono ((Same.refl w2).alloc _)).row _ _ (by omega), hA2.put ⟨zeroP.six, zeroP.addr, c⟩ rfl, (hr2.same ((Same.refl w2).alloc _)).row _ _ (by omega), (((Only.same HS.out).trans ho2).allocNew _).rowNew _ _ (by omega), by omega, by omega, by omega, by omega, by omega⟩)
  clear hr2 ho2 HA HS HB hA2
  have h17 := HR3.out.pre.bits
  by_cases h64 : 64 ≤ c
  · obtain ⟨m, hm64⟩ : ∃ m : Nat, (c : Int) - 64 = m := ⟨c - 64, by omega⟩
    have f0 := HR3.out.pre.free 0
    have HA3 := Lib.hid (HR3.out.pre.setSix true)
    have g17 := HA3.out.bits
    have f17 := HA3.out.free 17
    have HA4 := Lib.hid (HA3.out.setLen (m : Nat))
    have k0 := HA4.out.six
    have k17 := HA4.out.bits
    have h0 := HR3.out.pre.six
    simp only at h17 h0 g17 k0 k17
    have HR5 := Lib.hid (HR3.out.turn true (m : Nat))
    have Hf := Lib.hid (fits_at true (m : Nat))
    have hS : sixOf c = true := by simp [sixOf, h64]
    have hL : lenOf c = m := by unfold lenOf; rw [if_pos h64]; omega
    go_wp2_with fail
    clear HR3 HA3 HA4 f0 g17 f17 k0 k17 h0 h17 hst f3 z4 hm64
    generalize (((w2.alloc (.cells (pc zeroP) 54)).setRow w2.heap.size (pc ⟨zeroP.six, zeroP.addr, c⟩)).setCell ⟨w2.heap.size, 0, none⟩ (.bool true)).setCell ⟨w2.heap.size, 17, none⟩ (.int .i64 (m : Nat)) = w3 at *
    generalize w2.heap.size = g at *
    have HR3 := Lib.hid (show Ready w w3 b w.heap.size g ⟨true, zl, (m : Nat)⟩ l1 x1 from HR5.out)
    clear HR5
    refine (Hf.out _).mono ?_
    rintro e w4 ⟨rfl, b4⟩
    have HR4 := Lib.hid (HR3.out.mono b4)
    clear HR3 b4 Hf
    have hzs : (pc zeroP).size = n2 := by rw [HN2.out]; exact pc_size _ rfl
    by_cases hfit : fitsB true ((m : Nat) : Int) = true
    · rw [hfit]
      have hm : m ≤ 128 := by simp [fitsB, sizeN] at hfit; omega
      have e17 : w4.cell? ⟨g, 17, none⟩ = some (.int .i64 (m : Nat)) := HR4.out.pre.bits
      have hsl := slice_addr
      have Hnd := Lib.hid (need_at m hm)
      have Hraw := Lib.hid (raw_at b (needN m : Nat) l1 x1)
      have HT := Lib.hid (show tailF c l1 x1 = if (V.rawF l1 x1 (needN m : Nat)).2.2 = 0 then (if rightP ⟨true, padL (V.rawF l1 x1 (needN m : Nat)).1, (m : Nat)⟩ then (⟨true, padL (V.rawF l1 x1 (needN m : Nat)).1, (m : Nat)⟩, 0, (V.rawF l1 x1 (needN m : Nat)).2.1, 0) else (zeroP, 4, (V.rawF l1 x1 (needN m : Nat)).2.1, 0)) else (zeroP, (V.rawF l1 x1 (needN m : Nat)).2.2, (V.rawF l1 x1 (needN m : Nat)).2.1, (V.rawF l1 x1 (needN m : Nat)).2.2) by
        rw [tailF, hS, hL, if_pos hfit])
      have hT16 := raw_len l1 x1 (needN m) (by unfold needN; omega)
      generalize (V.rawF l1 x1 (needN m : Nat)).1 = T at *
      generalize (V.rawF l1 x1 (needN m : Nat)).2.1 = l2 at *
      generalize (V.rawF l1 x1 (needN m : Nat)).2.2 = x2 at *
      clear hfit
      go_wp2_with fail
      go_region_with (first
        | (go_at_call 61; refine (Hnd.out _).mono ?_; rintro e w1 ⟨rfl, rfl⟩)
        | (go_at_call 115; refine (Hraw.out _ HR4.out.drew.rd).mono ?_; rintro e w5 ⟨rfl, hr5, ho5⟩; have HR5 := Lib.hid (HR4.out.drew.read hr5 ho5); have hcp := copy_addr w5 g T ⟨true, zl, (m : Nat)⟩ hT16 rfl HR5.out.pre))
      have HR6 := Lib.hid (HR5.out.fill ⟨true, padL T, (m : Nat)⟩ (padL_len T))
      clear hcp HR5 HR4 e17 hr5 ho5
      generalize w5.setRow g (pc ⟨true, padL T, (m : Nat)⟩) = w6 at *
      have Her := Lib.hid (err_rd b l2 x2 w6 HR6.out.rd)
      by_cases hx : x2 = 0
      · subst hx
        have hq := Lib.hid (right ⟨true, padL T, (m : Nat)⟩ (padL_len T))
        have HT2 := Lib.hid (HT.out.trans (if_pos rfl))
        clear HT
        have hp16 : (⟨true, padL T, (m : Nat)⟩ : Px).addr.length = 16 := padL_len T
        generalize (⟨true, padL T, (m : Nat)⟩ : Px) = P at *
        have hps : (pc P).size = n2 := by rw [HN2.out]; exact pc_size _ hp16
        go_wp2_with fail
        refine Her.out.mono ?_
        rintro e w7 ⟨rfl, rfl⟩
        have hwp := HR6.out.pre.whole HN2.out
        go_wp2_with fail
        refine (hq.out _).mono ?_
        rintro e w7 ⟨rfl, b7⟩
        have HR7 := Lib.hid (HR6.out.mono b7)
        have hwp7 := HR7.out.pre.whole HN2.out
        clear HR6 b7 hwp Her hq
        by_cases hr : rightP P
        · rw [decide_eq_true hr]
          have hst := HR7.out.res.store P hp16
          have hld := (HR7.out.res.put P hp16).whole HN2.out
          go_wp2
          refine bodyPost_ret (v := .tuple #[.agg (pc P), .int .i64 0]) ?_ rfl ?_
          · simp [results, Tryz.results90, go_sem, hsz2, hld]
          · rw [HT2.out, if_pos hr]
            exact ⟨rfl, HR7.out.rd.row _ _ (Ne.symm HR7.out.rb), HR7.out.only.rowNew _ _ HR7.out.rn⟩
        · rw [decide_eq_false hr]
          have hst := HR7.out.res.store zeroP rfl
          have hld := (HR7.out.res.put zeroP rfl).whole HN2.out
          go_wp2
          refine bodyPost_ret (v := .tuple #[.agg (pc zeroP), .int .i64 4]) ?_ rfl ?_
          · simp [results, Tryz.results90, go_sem, hsz2, hld]
          · rw [HT2.out, if_neg hr]
            exact ⟨rfl, HR7.out.rd.row _ _ (Ne.symm HR7.out.rb), HR7.out.only.rowNew _ _ HR7.out.rn⟩
      · have HT2 := Lib.hid (HT.out.trans (if_neg hx))
        clear HT
        go_wp2_with fail
        refine Her.out.mono ?_
        rintro e w7 ⟨rfl, rfl⟩
        have hst := HR6.out.res.store zeroP rfl
        have hld := (HR6.out.res.put zeroP rfl).whole HN2.out
        go_wp2
        refine bodyPost_ret (v := .tuple #[.agg (pc zeroP), .int .i64 x2]) ?_ rfl ?_
        · simp [results, Tryz.results90, go_sem, hsz2, hld]
        · rw [HT2.out]
          exact ⟨rfl, HR6.out.rd.row _ _ (Ne.symm HR6.out.rb), HR6.out.only.rowNew _ _ HR6.out.rn⟩
    · rw [show fitsB true ((m : Nat) : Int) = false by simpa using hfit]
      have HT := Lib.hid (show tailF c l1 x1 = (zeroP, 4, l1, x1) by rw [tailF, hS, hL, if_neg hfit])
      have hst := HR4.out.res.store zeroP rfl
      have hld := (HR4.out.res.put zeroP rfl).whole HN2.out
      clear hfit
      go_wp2
      refine bodyPost_ret (v := .tuple #[.agg (pc zeroP), .int .i64 4]) ?_ rfl ?_
      · simp [results, Tryz.results90, go_sem, hsz2, hld]
      · rw [HT.out]
        exact ⟨rfl, HR4.out.rd.row _ _ (Ne.symm HR4.out.rb), HR4.out.only.rowNew _ _ HR4.out.rn⟩
  · have h0 := HR3.out.pre.six
    simp only at h17 h0
    have Hf := Lib.hid (fits_at false (c : Nat))
    have hS : sixOf c = false := by simp [sixOf]; omega
    have hL : lenOf c = c := by unfold lenOf; rw [if_neg h64]
    go_wp2_with fail
    generalize (w2.alloc (.cells (pc zeroP) 54)).setRow w2.heap.size (pc ⟨zeroP.six, zeroP.addr, c⟩) = w3 at *
    generalize w2.heap.size = g at *
    clear hst f3 z4 h0 h17
    refine (Hf.out _).mono ?_
    rintro e w4 ⟨rfl, b4⟩
    have HR4 := Lib.hid (HR3.out.mono b4)
    clear HR3 b4 Hf
    have hzs : (pc zeroP).size = n2 := by rw [HN2.out]; exact pc_size _ rfl
    by_cases hfit : fitsB false ((c : Nat) : Int) = true
    · rw [hfit]
      have hm : c ≤ 128 := by simp [fitsB, sizeN] at hfit; omega
      have e17 : w4.cell? ⟨g, 17, none⟩ = some (.int .i64 (c : Nat)) := HR4.out.pre.bits
      have hsl := slice_addr
      have Hnd := Lib.hid (need_at c hm)
      have Hraw := Lib.hid (raw_at b (needN c : Nat) l1 x1)
      have HT := Lib.hid (show tailF c l1 x1 = if (V.rawF l1 x1 (needN c : Nat)).2.2 = 0 then (if rightP ⟨false, padL (V.rawF l1 x1 (needN c : Nat)).1, (c : Nat)⟩ then (⟨false, padL (V.rawF l1 x1 (needN c : Nat)).1, (c : Nat)⟩, 0, (V.rawF l1 x1 (needN c : Nat)).2.1, 0) else (zeroP, 4, (V.rawF l1 x1 (needN c : Nat)).2.1, 0)) else (zeroP, (V.rawF l1 x1 (needN c : Nat)).2.2, (V.rawF l1 x1 (needN c : Nat)).2.1, (V.rawF l1 x1 (needN c : Nat)).2.2) by
        rw [tailF, hS, hL, if_pos hfit])
      have hT16 := raw_len l1 x1 (needN c) (by unfold needN; omega)
      generalize (V.rawF l1 x1 (needN c : Nat)).1 = T at *
      generalize (V.rawF l1 x1 (needN c : Nat)).2.1 = l2 at *
      generalize (V.rawF l1 x1 (needN c : Nat)).2.2 = x2 at *
      clear hfit
      go_wp2_with fail
      go_region_with (first
        | (go_at_call 61; refine (Hnd.out _).mono ?_; rintro e w1 ⟨rfl, rfl⟩)
        | (go_at_call 115; refine (Hraw.out _ HR4.out.drew.rd).mono ?_; rintro e w5 ⟨rfl, hr5, ho5⟩; have HR5 := Lib.hid (HR4.out.drew.read hr5 ho5); have hcp := copy_addr w5 g T ⟨false, zl, (c : Nat)⟩ hT16 rfl HR5.out.pre))
      have HR6 := Lib.hid (HR5.out.fill ⟨false, padL T, (c : Nat)⟩ (padL_len T))
      clear hcp HR5 HR4 e17 hr5 ho5
      generalize w5.setRow g (pc ⟨false, padL T, (c : Nat)⟩) = w6 at *
      have Her := Lib.hid (err_rd b l2 x2 w6 HR6.out.rd)
      by_cases hx : x2 = 0
      · subst hx
        have hq := Lib.hid (right ⟨false, padL T, (c : Nat)⟩ (padL_len T))
        have HT2 := Lib.hid (HT.out.trans (if_pos rfl))
        clear HT
        have hp16 : (⟨false, padL T, (c : Nat)⟩ : Px).addr.length = 16 := padL_len T
        generalize (⟨false, padL T, (c : Nat)⟩ : Px) = P at *
        have hps : (pc P).size = n2 := by rw [HN2.out]; exact pc_size _ hp16
        go_wp2_with fail
        refine Her.out.mono ?_
        rintro e w7 ⟨rfl, rfl⟩
        have hwp := HR6.out.pre.whole HN2.out
        go_wp2_with fail
        refine (hq.out _).mono ?_
        rintro e w7 ⟨rfl, b7⟩
        have HR7 := Lib.hid (HR6.out.mono b7)
        have hwp7 := HR7.out.pre.whole HN2.out
        clear HR6 b7 hwp Her hq
        by_cases hr : rightP P
        · rw [decide_eq_true hr]
          have hst := HR7.out.res.store P hp16
          have hld := (HR7.out.res.put P hp16).whole HN2.out
          go_wp2
          refine bodyPost_ret (v := .tuple #[.agg (pc P), .int .i64 0]) ?_ rfl ?_
          · simp [results, Tryz.results90, go_sem, hsz2, hld]
          · rw [HT2.out, if_pos hr]
            exact ⟨rfl, HR7.out.rd.row _ _ (Ne.symm HR7.out.rb), HR7.out.only.rowNew _ _ HR7.out.rn⟩
        · rw [decide_eq_false hr]
          have hst := HR7.out.res.store zeroP rfl
          have hld := (HR7.out.res.put zeroP rfl).whole HN2.out
          go_wp2
          refine bodyPost_ret (v := .tuple #[.agg (pc zeroP), .int .i64 4]) ?_ rfl ?_
          · simp [results, Tryz.results90, go_sem, hsz2, hld]
          · rw [HT2.out, if_neg hr]
            exact ⟨rfl, HR7.out.rd.row _ _ (Ne.symm HR7.out.rb), HR7.out.only.rowNew _ _ HR7.out.rn⟩
      · have HT2 := Lib.hid (HT.out.trans (if_neg hx))
        clear HT
        go_wp2_with fail
        refine Her.out.mono ?_
        rintro e w7 ⟨rfl, rfl⟩
        have hst := HR6.out.res.store zeroP rfl
        have hld := (HR6.out.res.put zeroP rfl).whole HN2.out
        go_wp2
        refine bodyPost_ret (v := .tuple #[.agg (pc zeroP), .int .i64 x2]) ?_ rfl ?_
        · simp [results, Tryz.results90, go_sem, hsz2, hld]
        · rw [HT2.out]
          exact ⟨rfl, HR6.out.rd.row _ _ (Ne.symm HR6.out.rb), HR6.out.only.rowNew _ _ HR6.out.rn⟩
    · rw [show fitsB false ((c : Nat) : Int) = false by simpa using hfit]
      have HT := Lib.hid (show tailF c l1 x1 = (zeroP, 4, l1, x1) by rw [tailF, hS, hL, if_neg hfit])
      have hst := HR4.out.res.store zeroP rfl
      have hld := (HR4.out.res.put zeroP rfl).whole HN2.out
      clear hfit
      go_wp2
      refine bodyPost_ret (v := .tuple #[.agg (pc zeroP), .int .i64 4]) ?_ rfl ?_
      · simp [results, Tryz.results90, go_sem, hsz2, hld]
      · rw [HT.out]
        exact ⟨rfl, HR4.out.rd.row _ _ (Ne.symm HR4.out.rb), HR4.out.only.rowNew _ _ HR4.out.rn⟩
end Go.Proofs.YtgkgpdlakamgiaaGreat

/- Proved: what Read of prefix answers, and what becomes of memory. Condition: the reader's two cells are known (Rd). -/
namespace Go.Proofs.YtgkgpdlakamgiaaGreat
open Go.RowKit

def readF (l : List UInt8) (x : Int) : Px × Int × List UInt8 × Int :=
  if (takeF l x).2.1 = 0 ∨ (takeF l x).2.2.2 ≠ 0 then takeF l x else ((takeF l x).1, (takeF l x).2.1, l, x)
theorem takeF_len (l : List UInt8) (x : Int) : (takeF l x).1.addr.length = 16 := by
  unfold takeF tailF
  split
  · split
    · split
      · exact padL_len _
      · rfl
    · rfl
  · rfl

theorem new_rd (w : World) (l : List UInt8) (x : Int) (hl : l.length ≤ maxLen) : Rd (w.alloc (.cells #[.string ⟨l.toArray⟩, .int .i64 x] 122)) w.heap.size l x := ⟨by go_simp, by go_simp, by go_simp, by go_simp, hl⟩

set_option maxRecDepth 100000 in
set_option maxHeartbeats 1000000 in
theorem read_at (b : Nat) (l : List UInt8) (x : Int) (w : World) (h : Rd w b l x) : Calls Tryz.prog 69 #[.pointer (some ⟨b, 0, none⟩)] w (TakePost b w (readF l x)) := by
  obtain ⟨hz, hi⟩ := zero_of_info info24
  have hbw : b < w.heap.size := h.lt
  have hpl := takeF_len l x
  have HF := Lib.hid (show readF l x = if (takeF l x).2.1 = 0 ∨ (takeF l x).2.2.2 ≠ 0 then takeF l x else ((takeF l x).1, (takeF l x).2.1, l, x) from rfl)
  have HT := Lib.hid (fun g w h => take_at g l x w h)
  generalize readF l x = F at *
  generalize takeF l x = q at *
  obtain ⟨q1, q2, q3, q4⟩ := q
  simp only at hpl HF
  obtain ⟨n2, hn2⟩ : ∃ n, n = 18 := ⟨18, rfl⟩
  have hsz2 : ∀ w, (Go.sizeOf 54).run Tryz.prog w = .ok n2 w := fun w => by rw [hn2]; exact Tryz.sizeOf54 w
  obtain ⟨hA, hS⟩ := one_at w zeroP zeroP_len
  have h0 := (h.same hS).rest
  have h1 := (h.same hS).err
  have HA := Lib.hid hA
  have HS := Lib.hid hS
  have HN2 := Lib.hid hn2
  have HH := Lib.hid h
  clear hA hS hn2 hi h
  go_enter Tryz.func69, Tryz.ntmps69
  go_wp2_with fail
  have hs1 : (w.alloc (.cells (pc zeroP) 54)).heap.size = w.heap.size + 1 := by simp
  have hrd := (show Rd ((w.alloc (.cells (pc zeroP) 54)).alloc (.cells #[.string ⟨l.toArray⟩, .int .i64 x] 122)) (w.heap.size + 1) l x by rw [← hs1]; exact new_rd _ l x HH.out.len)
  refine (HT.out _ _ hrd).mono ?_
  rintro e w3 ⟨rfl, hr3, ho3⟩
  have hs2 : ((w.alloc (.cells (pc zeroP) 54)).alloc (.cells #[.string ⟨l.toArray⟩, .int .i64 x] 122)).heap.size = w.heap.size + 2 := by simp
  have hs3 := ho3.size
  have HS2 := Lib.hid (HS.out.alloc (.cells #[.string ⟨l.toArray⟩, .int .i64 x] 122))
  have HB3 := Lib.hid ((HH.out.same HS2.out).other ho3 (by omega) (by omega))
  have HA3 := Lib.hid ((HA.out.mono ((Same.refl _).alloc (.cells #[.string ⟨l.toArray⟩, .int .i64 x] 122))).only ho3 (by omega))
  have HO3 := Lib.hid (show Only b w w3 from ⟨by rw [ho3.os]; exact HS2.out.os, by rw [ho3.tape]; exact HS2.out.tape, by rw [ho3.output]; exact HS2.out.output, by omega, fun i hi _ => by rw [ho3.block i (by omega) (by omega)]; exact HS2.out.block i hi⟩)
  have hA4 : At (w3.alloc (.cells (pc zeroP) 54)) w3.heap.size zeroP := (one_at w3 zeroP rfl).1
  have z4 : (pc q1).size = n2 := by rw [HN2.out]; exact pc_size _ hpl
  have hst := hA4.store q1 hpl
  have HP := Lib.hid (hA4.put q1 hpl)
  have HR := Lib.hid (((HA3.out.mono ((Same.refl w3).alloc (.cells (pc zeroP) 54))).row w3.heap.size (pc q1)) (by omega))
  have HB := Lib.hid (((HB3.out.same ((Same.refl w3).alloc (.cells (pc zeroP) 54))).row w3.heap.size (pc q1)) (by omega))
  have HG := Lib.hid (((hr3.same ((Same.refl w3).alloc (.cells (pc zeroP) 54))).row w3.heap.size (pc q1)) (by omega))
  have HO := Lib.hid ((HO3.out.allocNew (.cells (pc zeroP) 54)).rowNew w3.heap.size (pc q1) (by omega))
  have hge : w.heap.size + 2 ≤ w3.heap.size := by omega
  clear hr3 ho3 HA HS HS2 hA4 HB3 HA3 HO3 hrd hs3 hs2 hs1 HT h0 h1
  obtain ⟨w4, hw4⟩ : ∃ w4, (w3.alloc (.cells (pc zeroP) 54)).setRow w3.heap.size (pc q1) = w4 := ⟨_, rfl⟩
  rw [hw4] at hst HP HR HB HG HO
  clear hw4
  by_cases h2 : q2 = 0
  · subst h2
    have HF2 := Lib.hid (HF.out.trans (if_pos (Or.inl rfl)))
    have g0 := HG.out.rest
    have g1 := HG.out.err
    have b0 := HB.out.rest
    have b1 := HB.out.err
    have f0 := HB.out.free0
    have f1 := HB.out.free1
    have HR5 := Lib.hid ((HR.out.setOther b 0 (.string ⟨q3.toArray⟩) (by omega)).setOther b 1 (.int .i64 q4) (by omega))
    have HP5 := Lib.hid ((HP.out.setOther b 0 (.string ⟨q3.toArray⟩) (by omega)).setOther b 1 (.int .i64 q4) (by omega))
    have HB5 := Lib.hid ((HB.out.setRest q3 HG.out.len).setErr q4)
    have HO5 := Lib.hid ((HO.out.trans (Only.setCell b 0 w4 (.string ⟨q3.toArray⟩))).trans (Only.setCell b 1 _ (.int .i64 q4)))
    have hwp := HP5.out.whole HN2.out
    have hst5 := HR5.out.store q1 hpl
    have hld := (HR5.out.put q1 hpl).whole HN2.out
    go_wp2
    refine bodyPost_ret (v := .tuple #[.agg (pc q1), .int .i64 0]) ?_ rfl ?_
    · simp [results, Tryz.results69, go_sem, hsz2, hld]
    · rw [HF2.out]
      exact ⟨rfl, HB5.out.row _ _ (by omega), HO5.out.rowNew _ _ (by omega)⟩
  · by_cases h4 : q4 = 0
    · have HF2 := Lib.hid (HF.out.trans (if_neg (by simp [h2, h4])))
      have Her := Lib.hid (err_rd (w.heap.size + 1) q3 q4 w4 HG.out)
      have hwp := HP.out.whole HN2.out
      have hst5 := HR.out.store q1 hpl
      have hld := (HR.out.put q1 hpl).whole HN2.out
      subst h4
      go_wp2_with fail
      refine Her.out.mono ?_
      rintro e w7 ⟨rfl, rfl⟩
      go_wp2
      refine bodyPost_ret (v := .tuple #[.agg (pc q1), .int .i64 q2]) ?_ rfl ?_
      · simp [results, Tryz.results69, go_sem, hsz2, hld]
      · rw [HF2.out]
        exact ⟨rfl, HB.out.row _ _ (by omega), HO.out.rowNew _ _ (by omega)⟩
    · have HF2 := Lib.hid (HF.out.trans (if_pos (Or.inr h4)))
      have hb2 : (q2 == 0) = false := by simpa using h2
      have hb4 : (q4 != 0) = true := by simpa using h4
      have Her := Lib.hid (err_rd (w.heap.size + 1) q3 q4 w4 HG.out)
      have g0 := HG.out.rest
      have g1 := HG.out.err
      have b0 := HB.out.rest
      have b1 := HB.out.err
      have f0 := HB.out.free0
      have f1 := HB.out.free1
      have HR5 := Lib.hid ((HR.out.setOther b 0 (.string ⟨q3.toArray⟩) (by omega)).setOther b 1 (.int .i64 q4) (by omega))
      have HP5 := Lib.hid ((HP.out.setOther b 0 (.string ⟨q3.toArray⟩) (by omega)).setOther b 1 (.int .i64 q4) (by omega))
      have HB5 := Lib.hid ((HB.out.setRest q3 HG.out.len).setErr q4)
      have HO5 := Lib.hid ((HO.out.trans (Only.setCell b 0 w4 (.string ⟨q3.toArray⟩))).trans (Only.setCell b 1 _ (.int .i64 q4)))
      have hwp := HP5.out.whole HN2.out
      have hst5 := HR5.out.store q1 hpl
      have hld := (HR5.out.put q1 hpl).whole HN2.out
      go_wp2_with fail
      refine Her.out.mono ?_
      rintro e w7 ⟨rfl, rfl⟩
      go_wp2
      refine bodyPost_ret (v := .tuple #[.agg (pc q1), .int .i64 q2]) ?_ rfl ?_
      · simp [results, Tryz.results69, go_sem, hsz2, hld]
      · rw [HF2.out]
        exact ⟨rfl, HB5.out.row _ _ (by omega), HO5.out.rowNew _ _ (by omega)⟩
end Go.Proofs.YtgkgpdlakamgiaaGreat

/- Proved: what Read of the document answers, and what becomes of memory. Condition: the reader's two cells are known (Rd). -/
namespace Go.Proofs.YtgkgpdlakamgiaaGreat
open Go.RowKit

theorem tail_err (l : List UInt8) (x : Int) (hx : x ≠ 0) : tailF 0 l x = (zeroP, x, l, x) := by
  have h1 : V.rawF l x (needN (lenOf 0) : Nat) = ([], l, x) := by unfold V.rawF; rw [if_pos hx]
  unfold tailF
  rw [h1]
  simp only
  rw [if_neg hx]
  rfl
theorem byte_err (l : List UInt8) (x : Int) (h : (V.byteF l x).2.2 ≠ 0) : (V.byteF l x).1.toNat = 0 := by
  unfold V.byteF at h ⊢
  by_cases hx : x ≠ 0
  · rw [if_pos hx]; rfl
  · rw [if_neg hx] at h ⊢
    cases l with
    | nil => rfl
    | cons c r => simp at h
theorem padL_set (T : List UInt8) (i : Nat) (hi : i < T.length) (_hT : T.length ≤ 16) : (padL (T.take i)).set i (UInt8.ofNat T[i].toNat) = padL (T.take (i + 1)) := by
  have hl := padL_len (T.take i)
  apply List.ext_getElem (by rw [List.length_set, padL_len, padL_len])
  intro j h1 h2
  have hj : j < 16 := by rw [List.length_set, padL_len] at h1; exact h1
  have g1 := padL_get (T.take i) j hj
  have g2 := padL_get (T.take (i + 1)) j hj
  rw [take_get] at g1 g2
  simp only [List.getD_eq_getElem?_getD, List.getElem?_eq_getElem (show j < (padL (T.take i)).length by omega), Option.getD_some] at g1
  simp only [List.getD_eq_getElem?_getD, List.getElem?_eq_getElem h2, Option.getD_some] at g2
  rw [List.getElem_set, g2]
  by_cases e : i = j
  · subst e
    rw [if_pos rfl, if_pos (by omega)]
    simp [hi]
  · rw [if_neg e, g1]
    by_cases h3 : j < i
    · rw [if_pos h3, if_pos (by omega)]
    · rw [if_neg h3, if_neg (by omega)]

def QRRel (w : World) (b r g : Nat) (s : Bool) (n : Nat) (T : List UInt8) (l : List UInt8) (x : Int) (i : Value) (wr : World) : Prop :=
  ∃ k : Nat, i = .int .i64 k ∧ k ≤ T.length ∧ Ready w wr b r g ⟨s, padL (T.take k), n⟩ l x
theorem Ready.byte {w w3 : World} {b r g : Nat} {p : Px} {l : List UInt8} {x : Int} (h : Ready w w3 b r g p l x) (i : Nat) (hi : i < 16) (c : Nat) (hc : c < 256) : Ready w (w3.setCell ⟨g, 1 + i, none⟩ (.int .u8 (c : Nat))) b r g ⟨p.six, p.addr.set i (UInt8.ofNat c), p.len⟩ l x :=
  ⟨h.res.setOther _ _ _ h.rg, h.pre.setByte i hi c hc, h.rd.cell _ _ _ (Ne.symm h.gb), h.only.cellNew _ _ _ h.gn, h.rb, h.gb, h.rg, h.rn, h.gn⟩

set_option maxRecDepth 100000 in
set_option maxHeartbeats 2000000 in
theorem qread_at (b : Nat) (l : List UInt8) (x : Int) (w : World) (h : Rd w b l x) : Calls Tryz.prog 37 #[.pointer (some ⟨b, 0, none⟩)] w (TakePost b w (takeF l x)) := by
  obtain ⟨hz, hi⟩ := zero_of_info info24
  have hby := qbyte_at b l x (w.alloc (.cells (pc zeroP) 54)) (h.same ((Same.refl w).alloc _))
  unfold takeF
  have hbw : b < w.heap.size := h.lt
  have HE := Lib.hid (byte_err l x)
  generalize (V.byteF l x).2.1 = l1 at *
  generalize (V.byteF l x).2.2 = x1 at *
  have hc : (V.byteF l x).1.toNat < 256 := UInt8.toNat_lt _
  generalize (V.byteF l x).1.toNat = c at *
  obtain ⟨n2, hn2⟩ : ∃ n, n = 18 := ⟨18, rfl⟩
  have hsz2 : ∀ w, (Go.sizeOf 54).run Tryz.prog w = .ok n2 w := fun w => by rw [hn2]; exact Tryz.sizeOf54 w
  obtain ⟨n1, hn1⟩ : ∃ n, n = 16 := ⟨16, rfl⟩
  have hsz1 : ∀ w, (Go.sizeOf 52).run Tryz.prog w = .ok n1 w := fun w => by rw [hn1]; exact Tryz.sizeOf52 w
  have hn0 : ¬ n1 = 0 := by omega
  have hzs : (pc zeroP).size = n2 := by rw [hn2]; exact pc_size _ rfl
  obtain ⟨hA, hS⟩ := one_at w zeroP zeroP_len
  have HA := Lib.hid hA
  have HS := Lib.hid hS
  have HN2 := Lib.hid hn2
  have HN1 := Lib.hid hn1
  have HB := Lib.hid hby
  clear hA hS hn2 hn1 hi hby h
  go_enter Tryz.func37, Tryz.ntmps37
  go_wp2_with fail
  refine HB.out.mono ?_
  rintro e w2 ⟨rfl, hr2, ho2⟩
  have hs1 : (w.alloc (.cells (pc zeroP) 54)).heap.size = w.heap.size + 1 := by simp
  have hs2 := ho2.size
  have HO2 := Lib.hid ((Only.same (b := b) HS.out).trans ho2)
  have HA2 := Lib.hid (HA.out.only ho2 (by omega))
  have HR2 := Lib.hid hr2
  have e1 := HR2.out.err
  clear hr2 ho2 HA HS HB
  by_cases hx1 : x1 = 0
  · subst hx1
    have z1 : (pc zeroP).size = 18 := pc_size _ rfl
    have hne : pc zeroP ≠ #[] := by intro h; rw [h] at z1; simp at z1
    have f3 := set_len zeroP rfl c
    have hA3 : At (w2.alloc (.cells (pc zeroP) 54)) w2.heap.size zeroP := (one_at w2 zeroP rfl).1
    have z4 : (pc ⟨zeroP.six, zeroP.addr, c⟩).size = n2 := by rw [HN2.out]; exact pc_size _ rfl
    have hst := hA3.store ⟨zeroP.six, zeroP.addr, c⟩ rfl
    have HR3 := Lib.hid (show Ready w ((w2.alloc (.cells (pc zeroP) 54)).setRow w2.heap.size (pc ⟨zeroP.six, zeroP.addr, c⟩)) b w.heap.size w2.heap.size ⟨false, zl, c⟩ l1 0 from
      ⟨(HA2.out.mono ((Same.refl w2).alloc _)).row _ _ (by omega), hA3.put ⟨zeroP.six, zeroP.addr, c⟩ rfl, (HR2.out.same ((Same.refl w2).alloc _)).row _ _ (by omega), (HO2.out.allocNew _).rowNew _ _ (by omega), by omega, by omega, by omega, by omega, by omega⟩)
    obtain ⟨w3, hw3⟩ : ∃ w3, (w2.alloc (.cells (pc zeroP) 54)).setRow w2.heap.size (pc ⟨zeroP.six, zeroP.addr, c⟩) = w3 := ⟨_, rfl⟩
    rw [hw3] at hst HR3
    obtain ⟨g, hg⟩ : ∃ g, w2.heap.size = g := ⟨_, rfl⟩
    have HG := Lib.hid hg
    rw [hg] at hst HR3
    clear hw3 HA2 HO2 HR2 hA3
    by_cases h64 : 64 ≤ c
    · obtain ⟨m, hm64⟩ : ∃ m : Nat, (c : Int) - 64 = m := ⟨c - 64, by omega⟩
      have hS : sixOf c = true := by simp [sixOf, h64]
      have hL : lenOf c = m := by unfold lenOf; rw [if_pos h64]; omega
      have f1 := set_six zeroP true
      have f4 := set_len ⟨true, zeroP.addr, zeroP.len⟩ rfl m
      have z2 : (pc ⟨true, zeroP.addr, zeroP.len⟩).size = 18 := pc_size _ rfl
      have z5 : (pc ⟨true, zeroP.addr, m⟩).size = n2 := by rw [HN2.out]; exact pc_size _ rfl
      have hst2 := HR3.out.pre.store ⟨true, zeroP.addr, m⟩ rfl
      have HR6 := Lib.hid (show Ready w (w3.setRow g (pc ⟨true, zeroP.addr, m⟩)) b w.heap.size g ⟨true, zl, (m : Nat)⟩ l1 0 from HR3.out.fill ⟨true, zeroP.addr, m⟩ rfl)
      simp only at f4
      obtain ⟨w6, hw6⟩ : ∃ w6, w3.setRow g (pc ⟨true, zeroP.addr, m⟩) = w6 := ⟨_, rfl⟩
      rw [hw6] at hst2 HR6
      clear hw6 HR3
      go_wp2_with fail
      clear f1 f3 f4 z2 z4 z5 hst hst2 hm64 e1
      have d0 : ∀ u : SW w6, u.1.cell? ⟨g, 0, none⟩ = some (.bool true) := fun u => (HR6.out.pre.mono u.2).six
      have d17 : ∀ u : SW w6, u.1.cell? ⟨g, 17, none⟩ = some (.int .i64 (m : Nat)) := fun u => (HR6.out.pre.mono u.2).bits
      have Hmo := Lib.hid (most_at true)
      have hfm : fitsB true ((m : Nat) : Int) = true ↔ m ≤ 8 * sizeN true := by simp [fitsB]; omega
      by_cases hfit : m ≤ 8 * sizeN true
      · have HT := Lib.hid (show tailF c l1 0 = if (V.rawF l1 0 (needN m : Nat)).2.2 = 0 then (if rightP ⟨true, padL (V.rawF l1 0 (needN m : Nat)).1, (m : Nat)⟩ then (⟨true, padL (V.rawF l1 0 (needN m : Nat)).1, (m : Nat)⟩, 0, (V.rawF l1 0 (needN m : Nat)).2.1, 0) else (zeroP, 4, (V.rawF l1 0 (needN m : Nat)).2.1, 0)) else (zeroP, (V.rawF l1 0 (needN m : Nat)).2.2, (V.rawF l1 0 (needN m : Nat)).2.1, (V.rawF l1 0 (needN m : Nat)).2.2) by
          rw [tailF, hS, hL, if_pos (hfm.2 hfit)])
        have hm : m ≤ 128 := by simp [sizeN] at hfit; omega
        have hfz : (m : Int) ≤ 8 * (sizeN true : Nat) := by omega
        have Hraw := Lib.hid (qraw_at b (needN m : Nat) l1 0)
        have hT16 := raw_len l1 0 (needN m) (by unfold needN; omega)
        generalize (V.rawF l1 0 (needN m : Nat)).1 = T at *
        generalize (V.rawF l1 0 (needN m : Nat)).2.1 = l2 at *
        generalize (V.rawF l1 0 (needN m : Nat)).2.2 = x2 at *
        go_wp2_with fail
        refine wp_region_same (Same.refl _) (by kernel_rfl) (by kernel_rfl) ?_
        repeat (first | go_big_quiet_step (exact Hmo.out.at _) | quiet_step (exact Hmo.out.at _))
        refine wpQuiet_nil ?_
        rintro w4 ⟨⟨w4', b4⟩, rfl⟩
        have HR4 := Lib.hid (HR6.out.mono b4)
        have e17 : w4.cell? ⟨g, 17, none⟩ = some (.int .i64 (m : Nat)) := HR4.out.pre.bits
        clear HR6 b4 d0 d17 hfm hfit Hmo
        go_wp2_with fail
        rw [show ((m : Int) + 7) / 8 = ((needN m : Nat) : Int) by unfold needN; omega]
        refine (Hraw.out _ HR4.out.rd).mono ?_
        rintro e w5 ⟨rfl, hr5, ho5⟩
        have HR5 := Lib.hid (HR4.out.read hr5 ho5)
        have e5 := HR5.out.rd.err
        clear HR4 hr5 ho5 e17 hfz Hraw
        by_cases hx : x2 = 0
        · subst hx
          have HT2 := Lib.hid (HT.out.trans (if_pos rfl))
          clear HT
          go_wp2_with fail
          clear e5
          go_loopw [7] (fun i wr => QRRel w b w.heap.size g true m T l2 0 i wr) (fun i _ => 17 - (intOf i).toNat)
          case atStart => exact ⟨0, rfl, by omega, HR5.out⟩
          case round =>
            obtain ⟨k, rfl, hk, hrd⟩ := hrel
            have HRr := Lib.hid hrd
            clear hrd HR5
            by_cases hk2 : k < T.length
            · have hk16 : k < 16 := by omega
              have hcell := HRr.out.pre.byte k hk16
              have hfree := HRr.out.pre.free (1 + k)
              have hge2 : ∀ h, (({ data := T.toArray } : ByteArray)[k]'h) = T[k] := fun _ => rfl
              have HB9 := Lib.hid (HRr.out.byte k hk16 T[k].toNat (UInt8.toNat_lt _))
              simp only [padL_set T k hk2 hT16] at HB9
              go_wp2
              go_roundw
              case rel => exact ⟨k + 1, by go_num, by omega, HB9.out⟩
              case measure => simp [intOf]; omega
            · obtain rfl : k = T.length := by omega
              rw [List.take_length] at HRr
              have hq := Lib.hid (qright ⟨true, padL T, (m : Nat)⟩ (padL_len T))
              have hp16 : (⟨true, padL T, (m : Nat)⟩ : Px).addr.length = 16 := padL_len T
              generalize (⟨true, padL T, (m : Nat)⟩ : Px) = P at *
              have hps : (pc P).size = n2 := by rw [HN2.out]; exact pc_size _ hp16
              have hwp := HRr.out.pre.whole HN2.out
              go_wp2_with fail
              refine (hq.out _).mono ?_
              rintro e w7 ⟨rfl, b7⟩
              have HR7 := Lib.hid (HRr.out.mono b7)
              have hwp7 := HR7.out.pre.whole HN2.out
              clear HRr b7 hwp hq
              by_cases hr : rightP P
              · rw [decide_eq_true hr]
                have hst := HR7.out.res.store P hp16
                have hld := (HR7.out.res.put P hp16).whole HN2.out
                go_wp2
                refine bodyPost_ret (v := .tuple #[.agg (pc P), .int .i64 0]) ?_ rfl ?_
                · simp [results, Tryz.results37, go_sem, hsz2, hld]
                · rw [HT2.out, if_pos hr]
                  exact ⟨rfl, HR7.out.rd.row _ _ (Ne.symm HR7.out.rb), HR7.out.only.rowNew _ _ HR7.out.rn⟩
              · rw [decide_eq_false hr]
                have hst := HR7.out.res.store zeroP rfl
                have hld := (HR7.out.res.put zeroP rfl).whole HN2.out
                go_wp2
                refine bodyPost_ret (v := .tuple #[.agg (pc zeroP), .int .i64 4]) ?_ rfl ?_
                · simp [results, Tryz.results37, go_sem, hsz2, hld]
                · rw [HT2.out, if_neg hr]
                  exact ⟨rfl, HR7.out.rd.row _ _ (Ne.symm HR7.out.rb), HR7.out.only.rowNew _ _ HR7.out.rn⟩
        · have HT2 := Lib.hid (HT.out.trans (if_neg hx))
          clear HT
          have hst := HR5.out.drew.res.store zeroP rfl
          have hld := (HR5.out.drew.res.put zeroP rfl).whole HN2.out
          have e2 := (HR5.out.drew.rd.row w.heap.size (pc zeroP) (Ne.symm HR5.out.rb)).err
          go_wp2_with fail
          go_region
          go_wp2
          refine bodyPost_ret (v := .tuple #[.agg (pc zeroP), .int .i64 x2]) ?_ rfl ?_
          · simp [results, Tryz.results37, go_sem, hsz2, hld]
          · rw [HT2.out]
            exact ⟨rfl, HR5.out.drew.rd.row _ _ (Ne.symm HR5.out.rb), HR5.out.drew.only.rowNew _ _ HR5.out.rn⟩
      · have HT := Lib.hid (show tailF c l1 0 = (zeroP, 4, l1, 0) by rw [tailF, hS, hL, if_neg (by rw [hfm]; exact hfit)])
        have hfz : ¬ (m : Int) ≤ 8 * (sizeN true : Nat) := by omega
        go_wp2_with fail
        refine wp_region_same (Same.refl _) (by kernel_rfl) (by kernel_rfl) ?_
        repeat (first | go_big_quiet_step (exact Hmo.out.at _) | quiet_step (exact Hmo.out.at _))
        refine wpQuiet_nil ?_
        rintro w4 ⟨⟨w4', b4⟩, rfl⟩
        have HR4 := Lib.hid (HR6.out.mono b4)
        have hst := HR4.out.res.store zeroP rfl
        have hld := (HR4.out.res.put zeroP rfl).whole HN2.out
        go_wp2
        refine bodyPost_ret (v := .tuple #[.agg (pc zeroP), .int .i64 4]) ?_ rfl ?_
        · simp [results, Tryz.results37, go_sem, hsz2, hld]
        · rw [HT.out]
          exact ⟨rfl, HR4.out.rd.row _ _ (Ne.symm HR4.out.rb), HR4.out.only.rowNew _ _ HR4.out.rn⟩
    · have hS : sixOf c = false := by simp [sixOf]; omega
      have hL : lenOf c = c := by unfold lenOf; rw [if_neg h64]
      go_wp2_with fail
      clear f3 z4 hst e1
      have d0 : ∀ u : SW w3, u.1.cell? ⟨g, 0, none⟩ = some (.bool false) := fun u => (HR3.out.pre.mono u.2).six
      have d17 : ∀ u : SW w3, u.1.cell? ⟨g, 17, none⟩ = some (.int .i64 (c : Nat)) := fun u => (HR3.out.pre.mono u.2).bits
      have Hmo := Lib.hid (most_at false)
      have hfm : fitsB false ((c : Nat) : Int) = true ↔ c ≤ 8 * sizeN false := by simp [fitsB]; omega
      by_cases hfit : c ≤ 8 * sizeN false
      · have HT := Lib.hid (show tailF c l1 0 = if (V.rawF l1 0 (needN c : Nat)).2.2 = 0 then (if rightP ⟨false, padL (V.rawF l1 0 (needN c : Nat)).1, (c : Nat)⟩ then (⟨false, padL (V.rawF l1 0 (needN c : Nat)).1, (c : Nat)⟩, 0, (V.rawF l1 0 (needN c : Nat)).2.1, 0) else (zeroP, 4, (V.rawF l1 0 (needN c : Nat)).2.1, 0)) else (zeroP, (V.rawF l1 0 (needN c : Nat)).2.2, (V.rawF l1 0 (needN c : Nat)).2.1, (V.rawF l1 0 (needN c : Nat)).2.2) by
          rw [tailF, hS, hL, if_pos (hfm.2 hfit)])
        have hm : c ≤ 128 := by simp [sizeN] at hfit; omega
        have hfz : (c : Int) ≤ 8 * (sizeN false : Nat) := by omega
        have Hraw := Lib.hid (qraw_at b (needN c : Nat) l1 0)
        have hT16 := raw_len l1 0 (needN c) (by unfold needN; omega)
        generalize (V.rawF l1 0 (needN c : Nat)).1 = T at *
        generalize (V.rawF l1 0 (needN c : Nat)).2.1 = l2 at *
        generalize (V.rawF l1 0 (needN c : Nat)).2.2 = x2 at *
        go_wp2_with fail
        refine wp_region_same (Same.refl _) (by kernel_rfl) (by kernel_rfl) ?_
        repeat (first | go_big_quiet_step (exact Hmo.out.at _) | quiet_step (exact Hmo.out.at _))
        refine wpQuiet_nil ?_
        rintro w4 ⟨⟨w4', b4⟩, rfl⟩
        have HR4 := Lib.hid (HR3.out.mono b4)
        have e17 : w4.cell? ⟨g, 17, none⟩ = some (.int .i64 (c : Nat)) := HR4.out.pre.bits
        clear HR3 b4 d0 d17 hfm hfit Hmo
        go_wp2_with fail
        rw [show ((c : Int) + 7) / 8 = ((needN c : Nat) : Int) by unfold needN; omega]
        refine (Hraw.out _ HR4.out.rd).mono ?_
        rintro e w5 ⟨rfl, hr5, ho5⟩
        have HR5 := Lib.hid (HR4.out.read hr5 ho5)
        have e5 := HR5.out.rd.err
        clear HR4 hr5 ho5 e17 hfz Hraw
        by_cases hx : x2 = 0
        · subst hx
          have HT2 := Lib.hid (HT.out.trans (if_pos rfl))
          clear HT
          go_wp2_with fail
          clear e5
          go_loopw [7] (fun i wr => QRRel w b w.heap.size g false c T l2 0 i wr) (fun i _ => 17 - (intOf i).toNat)
          case atStart => exact ⟨0, rfl, by omega, HR5.out⟩
          case round =>
            obtain ⟨k, rfl, hk, hrd⟩ := hrel
            have HRr := Lib.hid hrd
            clear hrd HR5
            by_cases hk2 : k < T.length
            · have hk16 : k < 16 := by omega
              have hcell := HRr.out.pre.byte k hk16
              have hfree := HRr.out.pre.free (1 + k)
              have hge2 : ∀ h, (({ data := T.toArray } : ByteArray)[k]'h) = T[k] := fun _ => rfl
              have HB9 := Lib.hid (HRr.out.byte k hk16 T[k].toNat (UInt8.toNat_lt _))
              simp only [padL_set T k hk2 hT16] at HB9
              go_wp2
              go_roundw
              case rel => exact ⟨k + 1, by go_num, by omega, HB9.out⟩
              case measure => simp [intOf]; omega
            · obtain rfl : k = T.length := by omega
              rw [List.take_length] at HRr
              have hq := Lib.hid (qright ⟨false, padL T, (c : Nat)⟩ (padL_len T))
              have hp16 : (⟨false, padL T, (c : Nat)⟩ : Px).addr.length = 16 := padL_len T
              generalize (⟨false, padL T, (c : Nat)⟩ : Px) = P at *
              have hps : (pc P).size = n2 := by rw [HN2.out]; exact pc_size _ hp16
              have hwp := HRr.out.pre.whole HN2.out
              go_wp2_with fail
              refine (hq.out _).mono ?_
              rintro e w7 ⟨rfl, b7⟩
              have HR7 := Lib.hid (HRr.out.mono b7)
              have hwp7 := HR7.out.pre.whole HN2.out
              clear HRr b7 hwp hq
              by_cases hr : rightP P
              · rw [decide_eq_true hr]
                have hst := HR7.out.res.store P hp16
                have hld := (HR7.out.res.put P hp16).whole HN2.out
                go_wp2
                refine bodyPost_ret (v := .tuple #[.agg (pc P), .int .i64 0]) ?_ rfl ?_
                · simp [results, Tryz.results37, go_sem, hsz2, hld]
                · rw [HT2.out, if_pos hr]
                  exact ⟨rfl, HR7.out.rd.row _ _ (Ne.symm HR7.out.rb), HR7.out.only.rowNew _ _ HR7.out.rn⟩
              · rw [decide_eq_false hr]
                have hst := HR7.out.res.store zeroP rfl
                have hld := (HR7.out.res.put zeroP rfl).whole HN2.out
                go_wp2
                refine bodyPost_ret (v := .tuple #[.agg (pc zeroP), .int .i64 4]) ?_ rfl ?_
                · simp [results, Tryz.results37, go_sem, hsz2, hld]
                · rw [HT2.out, if_neg hr]
                  exact ⟨rfl, HR7.out.rd.row _ _ (Ne.symm HR7.out.rb), HR7.out.only.rowNew _ _ HR7.out.rn⟩
        · have HT2 := Lib.hid (HT.out.trans (if_neg hx))
          clear HT
          have hst := HR5.out.drew.res.store zeroP rfl
          have hld := (HR5.out.drew.res.put zeroP rfl).whole HN2.out
          have e2 := (HR5.out.drew.rd.row w.heap.size (pc zeroP) (Ne.symm HR5.out.rb)).err
          go_wp2_with fail
          go_region
          go_wp2
          refine bodyPost_ret (v := .tuple #[.agg (pc zeroP), .int .i64 x2]) ?_ rfl ?_
          · simp [results, Tryz.results37, go_sem, hsz2, hld]
          · rw [HT2.out]
            exact ⟨rfl, HR5.out.drew.rd.row _ _ (Ne.symm HR5.out.rb), HR5.out.drew.only.rowNew _ _ HR5.out.rn⟩
      · have HT := Lib.hid (show tailF c l1 0 = (zeroP, 4, l1, 0) by rw [tailF, hS, hL, if_neg (by rw [hfm]; exact hfit)])
        have hfz : ¬ (c : Int) ≤ 8 * (sizeN false : Nat) := by omega
        go_wp2_with fail
        refine wp_region_same (Same.refl _) (by kernel_rfl) (by kernel_rfl) ?_
        repeat (first | go_big_quiet_step (exact Hmo.out.at _) | quiet_step (exact Hmo.out.at _))
        refine wpQuiet_nil ?_
        rintro w4 ⟨⟨w4', b4⟩, rfl⟩
        have HR4 := Lib.hid (HR3.out.mono b4)
        have hst := HR4.out.res.store zeroP rfl
        have hld := (HR4.out.res.put zeroP rfl).whole HN2.out
        go_wp2
        refine bodyPost_ret (v := .tuple #[.agg (pc zeroP), .int .i64 4]) ?_ rfl ?_
        · simp [results, Tryz.results37, go_sem, hsz2, hld]
        · rw [HT.out]
          exact ⟨rfl, HR4.out.rd.row _ _ (Ne.symm HR4.out.rb), HR4.out.only.rowNew _ _ HR4.out.rn⟩
  · have hst := (HA2.out.mono (Same.refl w2).drew).store zeroP rfl
    have hld := ((HA2.out.mono (Same.refl w2).drew).put zeroP rfl).whole HN2.out
    have HT := Lib.hid (show tailF c l1 x1 = (zeroP, x1, l1, x1) by rw [HE.out hx1]; exact tail_err l1 x1 hx1)
    have e2 := ((HR2.out.same (Same.refl w2).drew).row w.heap.size (pc zeroP) (by omega)).err
    go_wp2_with fail
    go_region
    go_wp2
    refine bodyPost_ret (v := .tuple #[.agg (pc zeroP), .int .i64 x1]) ?_ rfl ?_
    · simp [results, Tryz.results37, go_sem, hsz2, hld]
    · rw [HT.out]
      exact ⟨rfl, (HR2.out.same (Same.refl w2).drew).row _ _ (by omega), HO2.out.drewNew.rowNew _ _ (Nat.le_refl _)⟩
end Go.Proofs.YtgkgpdlakamgiaaGreat
