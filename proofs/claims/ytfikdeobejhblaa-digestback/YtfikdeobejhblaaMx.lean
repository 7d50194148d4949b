/- Proved: several texts in one: what Bytes of prefix and of the document answer; what Bytes of the document answers. Each with its conditions where it stands. -/
import Derived.Test.YtfikdeobejhblaaMv
import Derived.Laws.IdiomStrings
import Derived.Laws.MakeOwn

/- Proved: what Bytes of prefix and of the document answer. Condition: an address has sixteen bytes. -/
namespace Go.Proofs.Ytfikdeobejhblaa
open Go.RowKit

def headN (p : Px) : Nat := p.len.toNat + (if p.six then 64 else 0)
def bytesL (p : Px) : List UInt8 := UInt8.ofNat (headN p) :: p.addr.take (needN p.len.toNat)
theorem info60 : (Try.prog.info? 122).map (fun i => (i.zero, i.size)) = some (some (.agg (ac (0 :: zl))), 17) := by kernel_rfl
theorem conv_bytes {w : World} {b : Nat} {t : TypeId} {fz : Nat × Nat} (L : List UInt8) (h : w.heap[b]? = some (.cells (ac L) t fz)) (n : Nat) (hn : n ≤ L.length) (cap : Nat) : (convert 87 9 (.slice (some ⟨b, 0, none⟩) n cap)).run Try.prog w = .ok (.string ⟨(L.take n).toArray⟩) w := by
  have := run_convert_bytes_back (P := Try.prog) w 87 9 5 ⟨b, 0, none⟩ cap (L.take n) Try.underlying87 Try.underlying5 Try.underlying9 (by
    intro j hj
    have hadd : (⟨b, 0, none⟩ : Addr).add j = ⟨b, j, none⟩ := by unfold Addr.add; split <;> simp_all
    rw [hadd]
    have hj2 : j < L.length := by simp at hj; omega
    rw [cell_obj h (ac_get L j hj2)]
    simp)
  rwa [List.length_take, Nat.min_eq_left hn] at this
theorem cutp (b m : Nat) (h : m ≤ 16) (w : World) : (Instr.sliceAt 32 (.pointer (some ⟨b, 1, none⟩)) none (some (.int .i64 m)) none).run Try.prog w = .ok (.slice (some ⟨b, 1, none⟩) m 16) w := by
  have hn : Try.prog.arrayLen 32 = 16 := by kernel_rfl
  have he : Try.prog.elem 32 = 5 := by kernel_rfl
  have := run_sliceAt_array_h (P := Try.prog) w 32 ⟨b, 1, none⟩ (by kernel_rfl) .i64 (m : Int) (by omega) (by omega)
  rw [this, he, Try.sizeOf5 w]
  simp [slicedAt, hn, Addr.add]
theorem cut17 (b m : Nat) (h : m ≤ 17) (w : World) : (Instr.sliceAt 122 (.pointer (some ⟨b, 0, none⟩)) none (some (.int .i64 m)) none).run Try.prog w = .ok (.slice (some ⟨b, 0, none⟩) m 17) w := by
  have hn : Try.prog.arrayLen 122 = 17 := by kernel_rfl
  have he : Try.prog.elem 122 = 5 := by kernel_rfl
  have := run_sliceAt_array_h (P := Try.prog) w 122 ⟨b, 0, none⟩ (by kernel_rfl) .i64 (m : Int) (by omega) (by omega)
  rw [this, he, Try.sizeOf5 w]
  simp [slicedAt, hn, Addr.add]
theorem from17 (b : Nat) (w : World) : (Instr.sliceAt 122 (.pointer (some ⟨b, 0, none⟩)) (some (.int .i64 1)) none none).run Try.prog w = .ok (.slice (some ⟨b, 1, none⟩) 16 16) w := by
  have hn : Try.prog.arrayLen 122 = 17 := by kernel_rfl
  have he : Try.prog.elem 122 = 5 := by kernel_rfl
  have := run_sliceAt_array_l (P := Try.prog) w 122 ⟨b, 0, none⟩ (by kernel_rfl) .i64 1 (by omega) (by omega)
  rw [this, he, Try.sizeOf5 w]
  simp [slicedAt, hn, Addr.add]
theorem copy17 (w : World) (g b m : Nat) (p : Px) (c : UInt8) (hm : m ≤ 16) (hg : w.heap[g]? = some (.cells (ac (c :: zl)) 122 (0, 0))) (hb : At w b p) :
    (Builtin.copy_ #[87, 87] 3 #[.slice (some ⟨g, 1, none⟩) 16 16, .slice (some ⟨b, 1, none⟩) m 16]).run Try.prog w = .ok (.int .i64 m) (w.setRow g (ac (c :: padL (p.addr.take m)))) := by
  have hl := hb.len
  have hlen : ((p.addr.take m).map bv).length = m := by simp; omega
  have h := run_copy_row (P := Try.prog) w 87 87 3 5 g 1 16 16 ⟨b, 1, none⟩ m 16 (ac (c :: zl)) 122 ((p.addr.take m).map bv) Try.underlying87 info5 hg (by rw [hlen]; exact (Nat.min_eq_left hm).symm)
    (fun j v hv => by
      have hadd : (⟨b, 1, none⟩ : Addr).add j = ⟨b, 1 + j, none⟩ := by unfold Addr.add; split <;> simp_all
      have hj : j < m := by have := (List.getElem?_eq_some_iff.1 hv).1; omega
      have hj2 : j < p.addr.length := by omega
      rw [hadd, hb.byte j (by omega), ← hv]
      simp [hj, hj2, bv]) (by rw [hlen, ac_size]; simp [zl]; omega) (fun v hv => by
      simp only [List.mem_map] at hv
      obtain ⟨c, _, rfl⟩ := hv
      rfl)
  rw [h, hlen]
  have e : ((ac (c :: zl)).toList.take 1 ++ (p.addr.take m).map bv ++ (ac (c :: zl)).toList.drop (1 + m)).toArray = ac (c :: padL (p.addr.take m)) := by
    unfold ac padL zl
    refine congrArg _ ?_
    have e2 : List.map bv (c :: List.take 16 (List.take m p.addr ++ List.replicate 16 0)) = bv c :: List.take 16 (List.map bv (List.take m p.addr) ++ List.map bv (List.replicate 16 0)) := by rw [List.map_cons, List.map_take (i := 16), List.map_append]
    rw [e2]
    simp only [List.map_cons]
    generalize hM : List.map bv (List.take m p.addr) = M at *
    rw [List.map_replicate, List.take_succ_cons, List.take_zero, Nat.add_comm 1 m, List.drop_succ_cons, List.drop_replicate, List.take_append, List.take_of_length_le (by omega), hlen, List.take_replicate, Nat.min_eq_left (by omega)]
    simp
  rw [e]
  rfl

theorem head_set (c : UInt8) (k : Nat) (hk : k < 256) : (ac (c :: zl)).setIfInBounds 0 (.int .u8 (k : Nat)) = ac (UInt8.ofNat k :: zl) := by
  rw [ac_set _ _ _ hk]
  rfl
theorem head_get (k : Nat) (hk : k < 256) : (ac (UInt8.ofNat k :: zl))[0]? = some (.int .u8 (k : Nat)) := by
  rw [ac_get _ 0 (by simp)]
  simp [Nat.mod_eq_of_lt hk]

set_option maxRecDepth 100000 in
theorem bytes_no (p : Px) (hp : p.addr.length = 16) (hr : ¬ rightP p) : Gives Try.prog 49 #[.agg (pc p)] (.string ⟨#[]⟩) := by
  intro w
  obtain ⟨hA, hS⟩ := one_at w p hp
  have HR := Lib.hid (right p hp)
  rw [decide_eq_false hr] at HR
  obtain ⟨n2, hn2⟩ : ∃ n, n = 18 := ⟨18, rfl⟩
  have hsz2 : ∀ w, (Go.sizeOf 34).run Try.prog w = .ok n2 w := fun w => by rw [hn2]; exact Try.sizeOf34 w
  have hw := hA.whole hn2
  have HS := Lib.hid hS
  clear hA hS hn2
  go_enter Try.func49, Try.ntmps49
  go_wp2_with fail
  refine (HR.out _).mono ?_
  rintro e w1 ⟨rfl, b1⟩
  go_wp2
  go_ret
  exact ⟨rfl, HS.out.trans b1⟩

theorem head_lt (p : Px) (h : rightP p) : headN p < 256 := by
  have h1 := h.2.1
  unfold headN
  cases hs : p.six
  · rw [hs] at h1; simp [sizeN] at h1 ⊢; omega
  · rw [hs] at h1; simp [sizeN] at h1 ⊢; omega

set_option maxRecDepth 100000 in
theorem bytes_ok (p : Px) (hp : p.addr.length = 16) (hr : rightP p) : Gives Try.prog 49 #[.agg (pc p)] (.string ⟨(bytesL p).toArray⟩) := by
  intro w
  obtain ⟨hA, hS⟩ := one_at w p hp
  obtain ⟨hz, hi⟩ := zero_of_info info60
  have HR := Lib.hid (right p hp)
  rw [decide_eq_true hr] at HR
  obtain ⟨n2, hn2⟩ : ∃ n, n = 18 := ⟨18, rfl⟩
  have hsz2 : ∀ w, (Go.sizeOf 34).run Try.prog w = .ok n2 w := fun w => by rw [hn2]; exact Try.sizeOf34 w
  obtain ⟨n1, hn1⟩ : ∃ n, n = 16 := ⟨16, rfl⟩
  have hsz1 : ∀ w, (Go.sizeOf 32).run Try.prog w = .ok n1 w := fun w => by rw [hn1]; exact Try.sizeOf32 w
  have hn0 : ¬ n1 = 0 := by omega
  obtain ⟨k, hk⟩ : ∃ k : Nat, p.len = k := ⟨p.len.toNat, by have := hr.1; omega⟩
  have hk2 : k ≤ 128 := by have := hr.2.1; have := sizeN_le p.six; omega
  have hhd := head_lt p hr
  have hhe : headN p = k + (if p.six then 64 else 0) := by unfold headN; rw [hk, Int.toNat_natCast]
  have Hby := Lib.hid (show bytesL p = UInt8.ofNat (headN p) :: p.addr.take (needN k) by unfold bytesL; rw [hk, Int.toNat_natCast])
  have hm : needN k ≤ 16 := by unfold needN; omega
  have Hnd := Lib.hid (need_at k hk2)
  have hw := hA.whole hn2
  have HA := Lib.hid hA
  have HS := Lib.hid hS
  have HK := Lib.hid hk
  clear hA hS hn2 hn1 hi hr hk
  generalize needN k = m at *
  go_enter Try.func49, Try.ntmps49
  go_wp2_with fail
  refine (HR.out _).mono ?_
  rintro e w1 ⟨rfl, b1⟩
  have HA1 := Lib.hid (fun o => HA.out.mono (b1.alloc o))
  have h0 := fun o => (HA1.out o).six
  have h17 := fun o => (HA1.out o).bits
  rw [HK.out] at h17
  have hne : w.heap.size ≠ w1.heap.size := by
    have := b1.size
    have h : (w.alloc (.cells (pc p) 34)).heap.size = w.heap.size + 1 := by simp
    omega
  have hge : w.heap.size ≤ w1.heap.size := (HS.out.trans b1).size
  have HS1 := Lib.hid (fun o => (HS.out.trans b1).alloc o)
  have e1 := head_set 0 k (by omega)
  have e2 := head_get k (by omega)
  have hsl := fun b w => cutp b m hm w
  have hfr := from17
  have hct : ∀ b w, (Instr.sliceAt 122 (.pointer (some ⟨b, 0, none⟩)) none (some (.int .i64 (1 + (m : Int)))) none).run Try.prog w = .ok (.slice (some ⟨b, 0, none⟩) (1 + m) 17) w := fun b w => by
    have := cut17 b (1 + m) (by omega) w
    simpa using this
  clear hw HA HS b1
  have fin : ∀ c : UInt8, c = UInt8.ofNat (headN p) → (convert 87 9 (.slice (some ⟨w1.heap.size, 0, none⟩) (1 + m) 17)).run Try.prog ((w1.alloc (.cells (ac (c :: zl)) 122)).drew.setRow w1.heap.size (ac (c :: padL (p.addr.take m)))) = .ok (.string ⟨(bytesL p).toArray⟩) ((w1.alloc (.cells (ac (c :: zl)) 122)).drew.setRow w1.heap.size (ac (c :: padL (p.addr.take m)))) := fun c hc => by
    have := conv_bytes (c :: padL (p.addr.take m)) (block_row (w := (w1.alloc (.cells (ac (c :: zl)) 122)).drew) (heap_alloc_last w1 (.cells (ac (c :: zl)) 122)) (ac (c :: padL (p.addr.take m)))) (1 + m) (by simp [padL_len]; omega) 17
    rw [this, Hby.out, ← hc]
    have e : List.take (1 + m) (c :: padL (p.addr.take m)) = c :: p.addr.take m := by
      rw [Nat.add_comm, List.take_succ_cons]
      unfold padL
      rw [List.take_take, Nat.min_eq_left hm]
      exact congrArg _ (List.take_left' (by simp [hp]; omega))
    rw [e]
  have hcp := fun c => copy17 (w1.alloc (.cells (ac (c :: zl)) 122)).drew w1.heap.size w.heap.size m p c hm (heap_alloc_last w1 _) ((HA1.out (.cells (ac (c :: zl)) 122)).mono (Same.refl _).drew)
  cases hs : p.six
  · rw [hs] at hhe h0
    have hc1 := hcp (UInt8.ofNat k)
    have hf1 := fin (UInt8.ofNat k) (by rw [hhe]; simp)
    clear hcp fin
    go_wp2_with fail
    go_region_with (go_at_call 81; refine (Hnd.out _).mono ?_; rintro e w1 ⟨rfl, rfl⟩)
    go_wp2
    go_ret
    exact ⟨rfl, ((HS1.out (.cells (ac (UInt8.ofNat k :: zl)) 122)).drew).setRow _ _ hge⟩
  · rw [hs] at hhe h0
    have hc1 := hcp (UInt8.ofNat (k + 64))
    have hf1 := fin (UInt8.ofNat (k + 64)) (by rw [hhe]; simp)
    have e3 := head_set (UInt8.ofNat k) (k + 64) (by simp at hhe; omega)
    rw [show ((k + 64 : Nat) : Int) = (k : Int) + 64 by omega] at e3
    clear hcp fin
    generalize UInt8.ofNat (k + 64) = T at *
    go_wp2_with fail
    go_region_with (go_at_call 81; refine (Hnd.out _).mono ?_; rintro e w1 ⟨rfl, rfl⟩)
    go_wp2
    go_ret
    exact ⟨rfl, ((HS1.out (.cells (ac (T :: zl)) 122)).drew).setRow _ _ hge⟩
end Go.Proofs.Ytfikdeobejhblaa

/- Proved: what Bytes of the document answers. Condition: an address has sixteen bytes; the prefix may be. -/
namespace Go.Proofs.Ytfikdeobejhblaa
open Go.RowKit

theorem info5b : (Try.prog.info? 5).map (fun i => (i.zero, i.size, i.bytes)) = some (some (.int .u8 0), 1, 1) := by kernel_rfl
theorem conv_own {w : World} {B : Nat} {v : Value} {n : Nat} (L : List UInt8) (h : w.ownsRow B 5 1 v n (L.map bv)) : (convert 87 9 v).run Try.prog w = .ok (.string ⟨L.toArray⟩) w := by
  obtain ⟨h1, h2⟩ := h
  have hl : L.length = n := by simpa using h1
  rcases h2 with ⟨rfl, hn⟩ | ⟨g, cap, cur, rfl, hb, hg, h3, h4, h5, h6⟩
  · have : L = [] := List.eq_nil_of_length_eq_zero (by omega)
    subst this
    rw [run_convert_bytes_nil w 87 5 Try.underlying87 Try.underlying5 0 0 9 Try.underlying9]
    rfl
  · rw [← hl]
    refine run_convert_bytes_back (P := Try.prog) w 87 9 5 ⟨g, 0, none⟩ cap L Try.underlying87 Try.underlying5 Try.underlying9 ?_
    intro j hj
    have hadd : (⟨g, 0, none⟩ : Addr).add j = ⟨g, j, none⟩ := by unfold Addr.add; split <;> simp_all
    rw [hadd]
    refine cell_obj hg ?_
    have h8 : (cur.toList.take (n * 1))[j]? = cur.toList[j]? := List.getElem?_take_of_lt (by omega)
    rw [h6] at h8
    have : cur[j]? = cur.toList[j]? := by simp
    rw [this, ← h8]
    simp [hj, bv]

theorem At.lt {w : World} {b : Nat} {p : Px} (h : At w b p) : b + 1 ≤ w.heap.size := by
  rcases Nat.lt_or_ge b w.heap.size with h1 | h1
  · exact h1
  · have := h.block
    rw [Array.getElem?_eq_none h1] at this
    cases this
theorem Keep.trans_below {w wr w1 : World} (h : Keep w wr) (k : Below (w.heap.size + 1) wr w1) : Keep w w1 :=
  Below.trans h ⟨k.1, k.2, k.3, k.4, fun i hi => k.5 i (by omega)⟩
theorem take_more (h : UInt8) (l : List UInt8) (j : Nat) (hj : j < l.length) : (h :: l.take (j + 1)).map bv = (h :: l.take j).map bv ++ [.int .u8 ((l.getD j 0).toNat : Nat)] := by
  rw [List.take_add_one, List.getElem?_eq_getElem hj, Option.toList_some, ← List.cons_append, List.map_append]
  simp [hj, bv]
def QBRel (w : World) (p : Px) (lv i : Value) (wr : World) : Prop :=
  ∃ k : Nat, i = .int .i64 k ∧ k ≤ needN p.len.toNat ∧ wr.ownsRow (w.heap.size + 1) 5 1 lv (1 + k) ((UInt8.ofNat (headN p) :: p.addr.take k).map bv) ∧ At wr w.heap.size p ∧ Keep w wr

set_option maxRecDepth 100000 in
set_option maxHeartbeats 400000 in
theorem qbytes (p : Px) (hp : p.addr.length = 16) (hr : rightP p) : GivesK Try.prog 53 #[.agg (pc p)] (.string ⟨(bytesL p).toArray⟩) := by
  intro w
  obtain ⟨hA, hS⟩ := one_at w p hp
  obtain ⟨i0, hi, hz0, hz1, hz2⟩ := info_parts info5b
  obtain ⟨n1, hn1⟩ : ∃ n, n = 16 := ⟨16, rfl⟩
  have hsz1 : ∀ w, (Go.sizeOf 32).run Try.prog w = .ok n1 w := fun w => by rw [hn1]; exact Try.sizeOf32 w
  have hn0 : ¬ n1 = 0 := by omega
  obtain ⟨k, hk⟩ : ∃ k : Nat, p.len = k := ⟨p.len.toNat, by have := hr.1; omega⟩
  have hk2 : k ≤ 128 := by have := hr.2.1; have := sizeN_le p.six; omega
  have hhd := head_lt p hr
  have hhe : headN p = k + (if p.six then 64 else 0) := by unfold headN; rw [hk, Int.toNat_natCast]
  have Hby := Lib.hid (show bytesL p = UInt8.ofNat (headN p) :: p.addr.take (needN k) by unfold bytesL; rw [hk, Int.toNat_natCast])
  have h0 := hA.six
  have h17 := hA.bits
  rw [hk] at h17
  have HA := Lib.hid hA
  have HS := Lib.hid hS
  have HK := Lib.hid hk
  clear hA hS hn1 hr hk
  obtain ⟨hv, hhv⟩ : ∃ hv : Nat, hv = headN p := ⟨_, rfl⟩
  have start : ∀ lv, lv = Value.slice (some ⟨w.heap.size + 1, 0, none⟩) 1 1 → QBRel w p lv (.int .i64 0) ((w.alloc (.cells (pc p) 34)).alloc (.cells #[.int .u8 (headN p : Nat)] 5)) := fun lv hlv => by
    have hs : (w.alloc (.cells (pc p) 34)).heap.size = w.heap.size + 1 := by simp
    refine ⟨0, rfl, by omega, ⟨by simp, .inr ⟨w.heap.size + 1, 1, #[.int .u8 (headN p : Nat)], hlv, Nat.le_refl _, by rw [← hs]; exact heap_alloc_last _ _, by omega, by unfold maxLen; omega, rfl, ?_⟩⟩, HA.out.mono ((Same.refl _).alloc _), HS.out.keep.alloc _⟩
    simp [bv, Nat.mod_eq_of_lt hhd]
  have Hst := Lib.hid start
  clear start
  cases hs : p.six
  · rw [hs] at h0 hhe
    simp at hhe
    rw [hhe] at Hst
    go_enter Try.func53, Try.ntmps53
    go_wp2
    go_loopw [4, 5] (fun lv i wr => QBRel w p lv i wr) (fun _ i _ => 17 - (intOf i).toNat)
    case atStart => exact Hst.out _ rfl
    case round =>
      obtain ⟨j, rfl, hj, hown, hA, hsame⟩ := hrel
      rw [HK.out, Int.toNat_natCast] at hj
      have e17 := hA.bits
      rw [HK.out] at e17
      have HAr := Lib.hid hA
      have HSr := Lib.hid hsame
      clear hA hsame h0 h17 Hst
      by_cases h8 : 8 * j < k
      · have hj16 : j < 16 := by omega
        have hb := HAr.out.byte j hj16
        have hlt : (p.addr.getD j 0).toNat < 256 := UInt8.toNat_lt _
        have HL := Lib.hid (take_more (UInt8.ofNat (headN p)) p.addr j (by omega))
        generalize (UInt8.ofNat (headN p) :: p.addr.take j).map bv = ys at *
        generalize (p.addr.getD j 0).toNat = c at *
        have hbs := HSr.out.size
        go_wp2_with (at_builtin; refine wpList_append_own _ rfl _ _ 87 rfl (w.heap.size + 1) 5 i0 (.int .u8 0) 1 1 Try.underlying87 hi hz0 hz1 hz2 rfl (by decide) _ _ _ rfl (hown.alloc _) ⟨wr.heap.size, 0, none⟩ 1 1 [.int .u8 (c : Int)] rfl rfl (cell_one_new _ _ _) ?c2 ?c3 ?c4 ?c5 ?_)
        case c2 => intro u hu; simp at hu; subst hu; rfl
        case c3 => unfold maxLen; omega
        case c4 => omega
        case c5 => have := HAr.out.lt; simp; omega
        · intro v' w1 hown' hgrow _
          have hb1 : Below (w.heap.size + 1) wr w1 := (Below.alloc (Below.refl _ _) HAr.out.lt _).grown hgrow (by have := HAr.out.lt; simp; omega) (fun k hk => (hown.lt k hk).1)
          have Hrel := Lib.hid (show QBRel w p v' (.int .i64 (j + 1 : Nat)) w1 from ⟨j + 1, rfl, by rw [HK.out, Int.toNat_natCast]; unfold needN; omega, by rw [HL.out, ← Nat.add_assoc]; exact hown', ⟨by rw [hb1.block _ (by omega)]; exact HAr.out.block, hp⟩, Keep.trans_below HSr.out hb1⟩)
          clear hown' hgrow
          go_wp2
          go_roundw
          case rel => exact Hrel.out
          case measure => simp [intOf]; omega
      · have hjn : j = needN k := by unfold needN at hj ⊢; omega
        have hcv := conv_own _ hown
        rw [hjn, ← Hby.out] at hcv
        have hjb : j ≤ 16 := by unfold needN at hj; omega
        clear hown Hby hjn hj
        go_wp2
        go_ret
        exact ⟨rfl, HSr.out⟩
  · rw [hs] at h0 hhe
    simp at hhe
    rw [hhe, show ((k + 64 : Nat) : Int) = (k : Int) + 64 by omega] at Hst
    go_enter Try.func53, Try.ntmps53
    go_wp2
    go_loopw [4, 5] (fun lv i wr => QBRel w p lv i wr) (fun _ i _ => 17 - (intOf i).toNat)
    case atStart => exact Hst.out _ rfl
    case round =>
      obtain ⟨j, rfl, hj, hown, hA, hsame⟩ := hrel
      rw [HK.out, Int.toNat_natCast] at hj
      have e17 := hA.bits
      rw [HK.out] at e17
      have HAr := Lib.hid hA
      have HSr := Lib.hid hsame
      clear hA hsame h0 h17 Hst
      by_cases h8 : 8 * j < k
      · have hj16 : j < 16 := by omega
        have hb := HAr.out.byte j hj16
        have hlt : (p.addr.getD j 0).toNat < 256 := UInt8.toNat_lt _
        have HL := Lib.hid (take_more (UInt8.ofNat (headN p)) p.addr j (by omega))
        generalize (UInt8.ofNat (headN p) :: p.addr.take j).map bv = ys at *
        generalize (p.addr.getD j 0).toNat = c at *
        have hbs := HSr.out.size
        go_wp2_with (at_builtin; refine wpList_append_own _ rfl _ _ 87 rfl (w.heap.size + 1) 5 i0 (.int .u8 0) 1 1 Try.underlying87 hi hz0 hz1 hz2 rfl (by decide) _ _ _ rfl (hown.alloc _) ⟨wr.heap.size, 0, none⟩ 1 1 [.int .u8 (c : Int)] rfl rfl (cell_one_new _ _ _) ?c2 ?c3 ?c4 ?c5 ?_)
        case c2 => intro u hu; simp at hu; subst hu; rfl
        case c3 => unfold maxLen; omega
        case c4 => omega
        case c5 => have := HAr.out.lt; simp; omega
        · intro v' w1 hown' hgrow _
          have hb1 : Below (w.heap.size + 1) wr w1 := (Below.alloc (Below.refl _ _) HAr.out.lt _).grown hgrow (by have := HAr.out.lt; simp; omega) (fun k hk => (hown.lt k hk).1)
          have Hrel := Lib.hid (show QBRel w p v' (.int .i64 (j + 1 : Nat)) w1 from ⟨j + 1, rfl, by rw [HK.out, Int.toNat_natCast]; unfold needN; omega, by rw [HL.out, ← Nat.add_assoc]; exact hown', ⟨by rw [hb1.block _ (by omega)]; exact HAr.out.block, hp⟩, Keep.trans_below HSr.out hb1⟩)
          clear hown' hgrow
          go_wp2
          go_roundw
          case rel => exact Hrel.out
          case measure => simp [intOf]; omega
      · have hjn : j = needN k := by unfold needN at hj ⊢; omega
        have hcv := conv_own _ hown
        rw [hjn, ← Hby.out] at hcv
        have hjb : j ≤ 16 := by unfold needN at hj; omega
        clear hown Hby hjn hj
        go_wp2
        go_ret
        exact ⟨rfl, HSr.out⟩
end Go.Proofs.Ytfikdeobejhblaa
