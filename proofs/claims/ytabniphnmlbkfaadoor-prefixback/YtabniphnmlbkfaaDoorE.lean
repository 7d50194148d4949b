/- Proved: what Bytes of the document answers. Condition: an address has sixteen bytes; the prefix may be. -/
import Derived.Test.YtabniphnmlbkfaaDoorD
import Derived.Laws.MakeOwn
namespace Go.Proofs.YtabniphnmlbkfaaDoor
open Go.RowKit

theorem info5b : (Tryd.prog.info? 5).map (fun i => (i.zero, i.size, i.bytes)) = some (some (.int .u8 0), 1, 1) := by kernel_rfl
theorem conv_own {w : World} {B : Nat} {v : Value} {n : Nat} (L : List UInt8) (h : w.ownsRow B 5 1 v n (L.map bv)) : (convert 53 9 v).run Tryd.prog w = .ok (.string ⟨L.toArray⟩) w := by
  obtain ⟨h1, h2⟩ := h
  have hl : L.length = n := by simpa using h1
  rcases h2 with ⟨rfl, hn⟩ | ⟨g, cap, cur, rfl, hb, hg, h3, h4, h5, h6⟩
  · have : L = [] := List.eq_nil_of_length_eq_zero (by omega)
    subst this
    rw [run_convert_bytes_nil w 53 5 Tryd.underlying53 Tryd.underlying5 0 0 9 Tryd.underlying9]
    rfl
  · rw [← hl]
    refine run_convert_bytes_back (P := Tryd.prog) w 53 9 5 ⟨g, 0, none⟩ cap L Tryd.underlying53 Tryd.underlying5 Tryd.underlying9 ?_
    intro j hj
    have hadd : (⟨g, 0, none⟩ : Addr).add j = ⟨g, j, none⟩ := by unfold Addr.add; split <;> simp_all
    rw [hadd]
    refine cell_obj hg ?_
    have h8 : (cur.toList.take (n * 1))[j]? = cur.toList[j]? := List.getElem?_take_of_lt (by omega)
    rw [h6] at h8
    have : cur[j]? = cur.toList[j]? := by simp
    rw [this, ← h8]
    simp [hj, bv]

theorem At.lt {w : World} {b : Nat} {p : Px} (h : At w b p) : b + 1 ≤ w.heap.size := by
  rcases Nat.lt_or_ge b w.heap.size with h1 | h1
  · exact h1
  · have := h.block
    rw [Array.getElem?_eq_none h1] at this
    cases this
theorem Same.trans_below {w wr w1 : World} (h : Same w wr) (k : Below (w.heap.size + 1) wr w1) : Same w w1 :=
  Below.trans h ⟨k.1, k.2, k.3, k.4, fun i hi => k.5 i (by omega)⟩
theorem take_more (h : UInt8) (l : List UInt8) (j : Nat) (hj : j < l.length) : (h :: l.take (j + 1)).map bv = (h :: l.take j).map bv ++ [.int .u8 ((l.getD j 0).toNat : Nat)] := by
  rw [List.take_add_one, List.getElem?_eq_getElem hj, Option.toList_some, ← List.cons_append, List.map_append]
  simp [hj, bv]
def QBRel (w : World) (p : Px) (lv i : Value) (wr : World) : Prop :=
  ∃ k : Nat, i = .int .i64 k ∧ k ≤ needN p.len.toNat ∧ wr.ownsRow (w.heap.size + 1) 5 1 lv (1 + k) ((UInt8.ofNat (headN p) :: p.addr.take k).map bv) ∧ At wr w.heap.size p ∧ Same w wr

set_option maxRecDepth 100000 in
set_option maxHeartbeats 400000 in
theorem qbytes (p : Px) (hp : p.addr.length = 16) (hr : rightP p) : Gives Tryd.prog 11 #[.agg (pc p)] (.string ⟨(bytesL p).toArray⟩) := by
  intro w
  obtain ⟨hA, hS⟩ := one_at w p hp
  obtain ⟨i0, hi, hz0, hz1, hz2⟩ := info_parts info5b
  obtain ⟨n1, hn1⟩ : ∃ n, n = 16 := ⟨16, rfl⟩
  have hsz1 : ∀ w, (Go.sizeOf 22).run Tryd.prog w = .ok n1 w := fun w => by rw [hn1]; exact Tryd.sizeOf22 w
  have hn0 : ¬ n1 = 0 := by omega
  obtain ⟨k, hk⟩ : ∃ k : Nat, p.len = k := ⟨p.len.toNat, by have := hr.1; omega⟩
  have hk2 : k ≤ 128 := by have := hr.2.1; have := sizeN_le p.six; omega
  have hhd := head_lt p hr
  have hhe : headN p = k + (if p.six then 64 else 0) := by unfold headN; rw [hk, Int.toNat_natCast]
  have Hby := Lib.hid (show bytesL p = UInt8.ofNat (headN p) :: p.addr.take (needN k) by unfold bytesL; rw [hk, Int.toNat_natCast])
  have h0 := hA.six
  have h17 := hA.bits
  rw [hk] at h17
  have HA := Lib.hid hA
  have HS := Lib.hid hS
  have HK := Lib.hid hk
  clear hA hS hn1 hr hk
  obtain ⟨hv, hhv⟩ : ∃ hv : Nat, hv = headN p := ⟨_, rfl⟩
  have start : ∀ lv, lv = Value.slice (some ⟨w.heap.size + 1, 0, none⟩) 1 1 → QBRel w p lv (.int .i64 0) ((w.alloc (.cells (pc p) 24)).alloc (.cells #[.int .u8 (headN p : Nat)] 5)) := fun lv hlv => by
    have hs : (w.alloc (.cells (pc p) 24)).heap.size = w.heap.size + 1 := by simp
    refine ⟨0, rfl, by omega, ⟨by simp, .inr ⟨w.heap.size + 1, 1, #[.int .u8 (headN p : Nat)], hlv, Nat.le_refl _, by rw [← hs]; exact heap_alloc_last _ _, by omega, by unfold maxLen; omega, rfl, ?_⟩⟩, HA.out.mono ((Same.refl _).alloc _), HS.out.alloc _⟩
    simp [bv, Nat.mod_eq_of_lt hhd]
  have Hst := Lib.hid start
  clear start
  cases hs : p.six
  · rw [hs] at h0 hhe
    simp at hhe
    rw [hhe] at Hst
    go_enter Tryd.func11, Tryd.ntmps11
    go_wp2
    go_loopw [4, 5] (fun lv i wr => QBRel w p lv i wr) (fun _ i _ => 17 - (intOf i).toNat)
    case atStart => exact Hst.out _ rfl
    case round =>
      obtain ⟨j, rfl, hj, hown, hA, hsame⟩ := hrel
      rw [HK.out, Int.toNat_natCast] at hj
      have e17 := hA.bits
      rw [HK.out] at e17
      have HAr := Lib.hid hA
      have HSr := Lib.hid hsame
      clear hA hsame h0 h17 Hst
      by_cases h8 : 8 * j < k
      · have hj16 : j < 16 := by omega
        have hb := HAr.out.byte j hj16
        have hlt : (p.addr.getD j 0).toNat < 256 := UInt8.toNat_lt _
        have HL := Lib.hid (take_more (UInt8.ofNat (headN p)) p.addr j (by omega))
        generalize (UInt8.ofNat (headN p) :: p.addr.take j).map bv = ys at *
        generalize (p.addr.getD j 0).toNat = c at *
        have hbs := HSr.out.size
        go_wp2_with (at_builtin; refine wpList_append_own _ rfl _ _ 53 rfl (w.heap.size + 1) 5 i0 (.int .u8 0) 1 1 Tryd.underlying53 hi hz0 hz1 hz2 rfl (by decide) _ _ _ rfl (hown.alloc _) ⟨wr.heap.size, 0, none⟩ 1 1 [.int .u8 (c : Int)] rfl rfl (cell_one_new _ _ _) ?c2 ?c3 ?c4 ?c5 ?_)
        case c2 => intro u hu; simp at hu; subst hu; rfl
        case c3 => unfold maxLen; omega
        case c4 => omega
        case c5 => have := HAr.out.lt; simp; omega
        · intro v' w1 hown' hgrow _
          have hb1 : Below (w.heap.size + 1) wr w1 := (Below.alloc (Below.refl _ _) HAr.out.lt _).grown hgrow (by have := HAr.out.lt; simp; omega) (fun k hk => (hown.lt k hk).1)
          have Hrel := Lib.hid (show QBRel w p v' (.int .i64 (j + 1 : Nat)) w1 from ⟨j + 1, rfl, by rw [HK.out, Int.toNat_natCast]; unfold needN; omega, by rw [HL.out, ← Nat.add_assoc]; exact hown', ⟨by rw [hb1.block _ (by omega)]; exact HAr.out.block, hp⟩, Same.trans_below HSr.out hb1⟩)
          clear hown' hgrow
          go_wp2
          go_roundw
          case rel => exact Hrel.out
          case measure => simp [intOf]; omega
      · have hjn : j = needN k := by unfold needN at hj ⊢; omega
        have hcv := conv_own _ hown
        rw [hjn, ← Hby.out] at hcv
        have hjb : j ≤ 16 := by unfold needN at hj; omega
        clear hown Hby hjn hj
        go_wp2
        go_ret
        exact ⟨rfl, HSr.out⟩
  · rw [hs] at h0 hhe
    simp at hhe
    rw [hhe, show ((k + 64 : Nat) : Int) = (k : Int) + 64 by omega] at Hst
    go_enter Tryd.func11, Tryd.ntmps11
    go_wp2
    go_loopw [4, 5] (fun lv i wr => QBRel w p lv i wr) (fun _ i _ => 17 - (intOf i).toNat)
    case atStart => exact Hst.out _ rfl
    case round =>
      obtain ⟨j, rfl, hj, hown, hA, hsame⟩ := hrel
      rw [HK.out, Int.toNat_natCast] at hj
      have e17 := hA.bits
      rw [HK.out] at e17
      have HAr := Lib.hid hA
      have HSr := Lib.hid hsame
      clear hA hsame h0 h17 Hst
      by_cases h8 : 8 * j < k
      · have hj16 : j < 16 := by omega
        have hb := HAr.out.byte j hj16
        have hlt : (p.addr.getD j 0).toNat < 256 := UInt8.toNat_lt _
        have HL := Lib.hid (take_more (UInt8.ofNat (headN p)) p.addr j (by omega))
        generalize (UInt8.ofNat (headN p) :: p.addr.take j).map bv = ys at *
        generalize (p.addr.getD j 0).toNat = c at *
        have hbs := HSr.out.size
        go_wp2_with (at_builtin; refine wpList_append_own _ rfl _ _ 53 rfl (w.heap.size + 1) 5 i0 (.int .u8 0) 1 1 Tryd.underlying53 hi hz0 hz1 hz2 rfl (by decide) _ _ _ rfl (hown.alloc _) ⟨wr.heap.size, 0, none⟩ 1 1 [.int .u8 (c : Int)] rfl rfl (cell_one_new _ _ _) ?c2 ?c3 ?c4 ?c5 ?_)
        case c2 => intro u hu; simp at hu; subst hu; rfl
        case c3 => unfold maxLen; omega
        case c4 => omega
        case c5 => have := HAr.out.lt; simp; omega
        · intro v' w1 hown' hgrow _
          have hb1 : Below (w.heap.size + 1) wr w1 := (Below.alloc (Below.refl _ _) HAr.out.lt _).grown hgrow (by have := HAr.out.lt; simp; omega) (fun k hk => (hown.lt k hk).1)
          have Hrel := Lib.hid (show QBRel w p v' (.int .i64 (j + 1 : Nat)) w1 from ⟨j + 1, rfl, by rw [HK.out, Int.toNat_natCast]; unfold needN; omega, by rw [HL.out, ← Nat.add_assoc]; exact hown', ⟨by rw [hb1.block _ (by omega)]; exact HAr.out.block, hp⟩, Same.trans_below HSr.out hb1⟩)
          clear hown' hgrow
          go_wp2
          go_roundw
          case rel => exact Hrel.out
          case measure => simp [intOf]; omega
      · have hjn : j = needN k := by unfold needN at hj ⊢; omega
        have hcv := conv_own _ hown
        rw [hjn, ← Hby.out] at hcv
        have hjb : j ≤ 16 := by unfold needN at hj; omega
        clear hown Hby hjn hj
        go_wp2
        go_ret
        exact ⟨rfl, HSr.out⟩
end Go.Proofs.YtabniphnmlbkfaaDoor
