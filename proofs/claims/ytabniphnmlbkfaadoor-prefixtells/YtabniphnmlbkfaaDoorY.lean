/- Proved: what prefix's sixText answers. Condition: an address has sixteen bytes. -/
import Derived.Test.YtabniphnmlbkfaaDoorX
import Derived.Deep.AppendLies
import Derived.Deep.RegionHeldLaw
import Derived.Deep.RegionLaw
namespace Go.Proofs.YtabniphnmlbkfaaDoor
open Go.RowKit

def STRel (w : World) (l : List UInt8) (lv i : Value) (wr : World) : Prop :=
  ∃ (k : Nat) (ys : List Value), i = .int .i64 k ∧ k ≤ 16 ∧ ys = (sixth l k).map bv ∧ wr.ownsRow (w.heap.size + 1) 5 1 lv ys.length ys ∧ Same w wr ∧ w.heap.size + 1 ≤ wr.heap.size
theorem sixth_short (l : List UInt8) : ∀ n, (sixth l n).length ≤ 3 * n
  | 0 => by simp [sixth]
  | n + 1 => by
    have := sixth_short l n
    rw [sixth_succ, List.length_append, List.length_append]
    split <;> simp <;> omega
theorem hex_get (d : Nat) (h : d < 16) : ∀ hh, (({ data := #[48, 49, 50, 51, 52, 53, 54, 55, 56, 57, 97, 98, 99, 100, 101, 102] } : ByteArray)[d]'hh) = hexD d := by
  intro hh
  unfold hexD
  simp [hx, h]
  rfl
theorem index_addr (T : Array Value) (k : IntKind) (n : Nat) (v : Value) (h : T[n]? = some v) (hn : n < 16) (w : World) : (Instr.index 22 (.agg T) (.int k n)).run Tryd.prog w = .ok v w := by
  have hn2 : (n : Int) < 16 := by omega
  simp [Instr.index, go_sem, asIntOf, h]
  omega
theorem shr4 (c : Nat) : (c : Int) / 2 ^ 4 = ((c / 16 : Nat) : Int) := by omega
theorem and15 (c : Nat) (hc : c < 256) : bits .and .u8 (c : Int) 15 = ((c % 16 : Nat) : Int) := by
  have h := u8_and_nat c 15 hc (by omega)
  rw [show c &&& 15 = c % 16 from Nat.and_two_pow_sub_one_eq_mod c 4] at h
  exact h

set_option maxRecDepth 100000 in
set_option maxHeartbeats 1000000 in
theorem sixText (l : List UInt8) (hl : l.length = 16) : Gives Tryd.prog 38 #[.agg (ac l)] (.string ⟨(sixth l 16).toArray⟩) := by
  intro w
  obtain ⟨i0, hi, hz0, hz1, hz2⟩ := info_parts info5b
  obtain ⟨n1, hn1⟩ : ∃ n, n = 16 := ⟨16, rfl⟩
  have hsz1 : ∀ w, (Go.sizeOf 22).run Tryd.prog w = .ok n1 w := fun w => by rw [hn1]; exact Tryd.sizeOf22 w
  have hld := load_block (P := Tryd.prog) n1 (by rw [ac_size, hl, hn1]) (heap_alloc_last w (.cells (ac l) 22))
  have HS0 := Lib.hid ((Same.refl w).alloc (.cells (ac l) 22))
  have hs0 : (w.alloc (.cells (ac l) 22)).heap.size = w.heap.size + 1 := by simp
  have HS1 := Lib.hid hs0
  clear hn1 hs0
  go_enter Tryd.func38, Tryd.ntmps38
  go_wp2
  generalize w.alloc (.cells (ac l) 22) = w0 at *
  clear hld
  go_loopw [3, 7] (fun lv i wr => STRel w l lv i wr) (fun _ i _ => 17 - (intOf i).toNat)
  case atStart => exact ⟨0, [], rfl, by omega, rfl, ⟨rfl, .inl ⟨rfl, rfl⟩⟩, HS0.out, by rw [HS1.out]; exact Nat.le_refl _⟩
  case round =>
    obtain ⟨k, ys, rfl, hk, hys, hown, hsame, hsize⟩ := hrel
    have Hys := Lib.hid hys
    have HS := Lib.hid hsame
    have hyl : ys.length ≤ 48 := by rw [hys, List.length_map]; have := sixth_short l k; omega
    clear hys hsame HS0
    by_cases hk2 : k < 16
    · have hc := fun w => index_addr (ac l) .i64 k _ (ac_get l k (by omega)) hk2 w
      have Hd := Lib.hid (show (l.getD k 0).toNat = l[k].toNat by simp [show k < l.length by omega])
      have hlt : l[k].toNat < 256 := UInt8.toNat_lt _
      generalize l[k].toNat = c at *
      have Hn := Lib.hid (sixth_succ l k)
      rw [Hd.out] at Hn
      have e1 := shr4 c
      have e2 := and15 c hlt
      have e3 : (c : Int) / 16 = ((c / 16 : Nat) : Int) := by omega
      have ha : c / 16 < 16 := by omega
      have hb : c % 16 < 16 := by omega
      generalize c / 16 = a at *
      generalize c % 16 = b at *
      have g1 := hex_get a ha
      have g2 := hex_get b hb
      by_cases hcol : 0 < k ∧ k % 2 = 0
      · rw [if_pos hcol] at Hn
        obtain ⟨hk0, hk1⟩ := hcol
        go_wp2_with (at_builtin; refine wpList_append_own _ rfl _ _ 53 rfl (w.heap.size + 1) 5 i0 (.int .u8 0) 1 1 Tryd.underlying53 hi hz0 hz1 hz2 rfl (by decide) _ _ _ rfl (hown.alloc _) ⟨wr.heap.size, 0, none⟩ 1 1 [.int .u8 (58 : Int)] rfl rfl (cell_one_new _ _ _) ?c2 ?c3 ?c4 ?c5 ?_)
        case c2 => intro u hu; simp at hu; subst hu; rfl
        case c3 => unfold maxLen; omega
        case c4 => omega
        case c5 => simp; omega
        intro v' w5 hown5 hgrow5 _
        have hb5 : Below (w.heap.size + 1) wr w5 := (Below.alloc (Below.refl (w.heap.size + 1) wr) hsize _).grown hgrow5 (by simp; omega) (fun k hk => (hown.lt k hk).1)
        have HS5 := Lib.hid (Same.trans_below HS.out hb5)
        have hsize5 : w.heap.size + 1 ≤ w5.heap.size := Nat.le_trans hsize hb5.size
        obtain ⟨zs, hzs⟩ : ∃ zs, zs = ys ++ [Value.int .u8 58] := ⟨_, rfl⟩
        have hzl : zs.length = ys.length + 1 := by rw [hzs]; simp
        rw [← hzs, ← hzl] at hown5
        have Hzs := Lib.hid hzs
        have hyl5 : zs.length ≤ 49 := by omega
        clear hown hgrow5 hb5 hc hzs hzl
        have hown2 : (w5.drew.alloc (.cells #[.int .u8 ((hexD (a)).toNat : Nat), .int .u8 ((hexD (b)).toNat : Nat)] 5)).ownsRow (w.heap.size + 1) 5 1 v' zs.length zs := hown5.alloc _
        have hnews : ∀ j u, [Value.int .u8 ((hexD (a)).toNat : Nat), .int .u8 ((hexD (b)).toNat : Nat)][j]? = some u → (w5.drew.alloc (.cells #[.int .u8 ((hexD (a)).toNat : Nat), .int .u8 ((hexD (b)).toNat : Nat)] 5)).cell? ((⟨w5.heap.size, 0, none⟩ : Addr).add j) = some u := fun j u hu => Go.World.news_of_block (heap_alloc_last w5.drew _) j u hu
        have hone : ∀ u ∈ [Value.int .u8 ((hexD (a)).toNat : Nat), .int .u8 ((hexD (b)).toNat : Nat)], u.oneCell' = true := by intro u hu; simp at hu; rcases hu with rfl | rfl <;> rfl
        have hH : (w5.drew.alloc (.cells #[.int .u8 ((hexD (a)).toNat : Nat), .int .u8 ((hexD (b)).toNat : Nat)] 5)).heap.size = w5.heap.size + 1 := by simp
        have hbase : w.heap.size + 1 ≤ (w5.drew.alloc (.cells #[.int .u8 ((hexD (a)).toNat : Nat), .int .u8 ((hexD (b)).toNat : Nat)] 5)).heap.size := by rw [hH]; omega
        have h63 : zs.length + 2 ≤ maxLen := by unfold maxLen; omega
        have hby : (zs.length + 2) * 1 ≤ 140737488355328 := by omega
        go_wp2_with fail
        go_region_held_law (fun _ => True) (trivial) ((refine step_append_lies _ (by rfl) _ _ _ (by rfl) (w.heap.size + 1) 5 i0 (.int .u8 0) 1 1 Tryd.underlying53 hi hz0 hz1 hz2 rfl (by decide) _ _ _ (by rfl) hown2 ⟨w5.heap.size, 0, none⟩ 2 2 [.int .u8 ((hexD (a)).toNat : Nat), .int .u8 ((hexD (b)).toNat : Nat)] (by rfl) rfl hnews hone (by omega) h63 hby hbase (w5.heap.size + 1) hH ?_; intro g cap w1 hown1 hgrow hat hlt1))
        all_goals
          have hb1 : Below (w.heap.size + 1) w5 w1 := ((Below.alloc (Below.refl (w.heap.size + 1) w5).drew hsize5 _).grown hgrow (by rw [hH]; omega) (fun k hk => (hown5.lt k hk).1))
          have Hrel := Lib.hid (show STRel w l (.slice (some ⟨g, 0, none⟩) (zs.length + 2) cap) (.int .i64 (k + 1 : Nat)) w1 from ⟨k + 1, zs ++ [.int .u8 ((hexD a).toNat : Nat), .int .u8 ((hexD b).toNat : Nat)], rfl, by omega, by rw [Hn.out, List.map_append, ← Hys.out, Hzs.out, List.append_assoc]; rfl, by rw [List.length_append]; exact hown1, Same.trans_below HS5.out hb1, Nat.le_trans hsize5 hb1.size⟩)
          clear hown1 hgrow hat hlt1 hb1 hown2 hnews hone hH hbase h63 hby
          go_wp2
          go_roundw
          case rel => exact Hrel.out
          case measure => simp [intOf]; omega
      · rw [if_neg hcol, List.nil_append] at Hn
        by_cases hk0 : k = 0
        · subst hk0
          have hc0 : ∀ w, (Instr.index 22 (.agg (ac l)) (.int .i64 0)).run Tryd.prog w = .ok (.int .u8 (c : Nat)) w := hc
          have hown2 : (wr.drew.alloc (.cells #[.int .u8 ((hexD (a)).toNat : Nat), .int .u8 ((hexD (b)).toNat : Nat)] 5)).ownsRow (w.heap.size + 1) 5 1 u3 ys.length ys := hown.alloc _
          have hnews : ∀ j u, [Value.int .u8 ((hexD (a)).toNat : Nat), .int .u8 ((hexD (b)).toNat : Nat)][j]? = some u → (wr.drew.alloc (.cells #[.int .u8 ((hexD (a)).toNat : Nat), .int .u8 ((hexD (b)).toNat : Nat)] 5)).cell? ((⟨wr.heap.size, 0, none⟩ : Addr).add j) = some u := fun j u hu => Go.World.news_of_block (heap_alloc_last wr.drew _) j u hu
          have hone : ∀ u ∈ [Value.int .u8 ((hexD (a)).toNat : Nat), .int .u8 ((hexD (b)).toNat : Nat)], u.oneCell' = true := by intro u hu; simp at hu; rcases hu with rfl | rfl <;> rfl
          have hH : (wr.drew.alloc (.cells #[.int .u8 ((hexD (a)).toNat : Nat), .int .u8 ((hexD (b)).toNat : Nat)] 5)).heap.size = wr.heap.size + 1 := by simp
          have hbase : w.heap.size + 1 ≤ (wr.drew.alloc (.cells #[.int .u8 ((hexD (a)).toNat : Nat), .int .u8 ((hexD (b)).toNat : Nat)] 5)).heap.size := by rw [hH]; omega
          have h63 : ys.length + 2 ≤ maxLen := by unfold maxLen; omega
          have hby : (ys.length + 2) * 1 ≤ 140737488355328 := by omega
          go_wp2_with fail
          go_region_held_law (fun _ => True) (trivial) ((refine step_append_lies _ (by rfl) _ _ _ (by rfl) (w.heap.size + 1) 5 i0 (.int .u8 0) 1 1 Tryd.underlying53 hi hz0 hz1 hz2 rfl (by decide) _ _ _ (by rfl) hown2 ⟨wr.heap.size, 0, none⟩ 2 2 [.int .u8 ((hexD (a)).toNat : Nat), .int .u8 ((hexD (b)).toNat : Nat)] (by rfl) rfl hnews hone (by omega) h63 hby hbase (wr.heap.size + 1) hH ?_; intro g cap w1 hown1 hgrow hat hlt1))
          all_goals
            have hb1 : Below (w.heap.size + 1) wr w1 := ((Below.alloc (Below.refl (w.heap.size + 1) wr).drew hsize _).grown hgrow (by rw [hH]; omega) (fun k hk => (hown.lt k hk).1))
            have Hrel := Lib.hid (show STRel w l (.slice (some ⟨g, 0, none⟩) (ys.length + 2) cap) (.int .i64 (0 + 1 : Nat)) w1 from ⟨0 + 1, ys ++ [.int .u8 ((hexD a).toNat : Nat), .int .u8 ((hexD b).toNat : Nat)], rfl, by omega, by rw [Hn.out, List.map_append, ← Hys.out]; rfl, by rw [List.length_append]; exact hown1, Same.trans_below HS.out hb1, Nat.le_trans hsize hb1.size⟩)
            clear hown1 hgrow hat hlt1 hb1 hown2 hnews hone hH hbase h63 hby
            go_wp2
            go_roundw
            case rel => exact Hrel.out
            case measure => first | (simp [intOf]; done) | (simp [intOf]; omega)
        · have hm1 : k % 2 = 1 := by omega
          have hkp : 0 < k := by omega
          have hown2 : (wr.drew.alloc (.cells #[.int .u8 ((hexD (a)).toNat : Nat), .int .u8 ((hexD (b)).toNat : Nat)] 5)).ownsRow (w.heap.size + 1) 5 1 u3 ys.length ys := hown.alloc _
          have hnews : ∀ j u, [Value.int .u8 ((hexD (a)).toNat : Nat), .int .u8 ((hexD (b)).toNat : Nat)][j]? = some u → (wr.drew.alloc (.cells #[.int .u8 ((hexD (a)).toNat : Nat), .int .u8 ((hexD (b)).toNat : Nat)] 5)).cell? ((⟨wr.heap.size, 0, none⟩ : Addr).add j) = some u := fun j u hu => Go.World.news_of_block (heap_alloc_last wr.drew _) j u hu
          have hone : ∀ u ∈ [Value.int .u8 ((hexD (a)).toNat : Nat), .int .u8 ((hexD (b)).toNat : Nat)], u.oneCell' = true := by intro u hu; simp at hu; rcases hu with rfl | rfl <;> rfl
          have hH : (wr.drew.alloc (.cells #[.int .u8 ((hexD (a)).toNat : Nat), .int .u8 ((hexD (b)).toNat : Nat)] 5)).heap.size = wr.heap.size + 1 := by simp
          have hbase : w.heap.size + 1 ≤ (wr.drew.alloc (.cells #[.int .u8 ((hexD (a)).toNat : Nat), .int .u8 ((hexD (b)).toNat : Nat)] 5)).heap.size := by rw [hH]; omega
          have h63 : ys.length + 2 ≤ maxLen := by unfold maxLen; omega
          have hby : (ys.length + 2) * 1 ≤ 140737488355328 := by omega
          go_wp2_with fail
          go_region_held_law (fun _ => True) (trivial) ((refine step_append_lies _ (by rfl) _ _ _ (by rfl) (w.heap.size + 1) 5 i0 (.int .u8 0) 1 1 Tryd.underlying53 hi hz0 hz1 hz2 rfl (by decide) _ _ _ (by rfl) hown2 ⟨wr.heap.size, 0, none⟩ 2 2 [.int .u8 ((hexD (a)).toNat : Nat), .int .u8 ((hexD (b)).toNat : Nat)] (by rfl) rfl hnews hone (by omega) h63 hby hbase (wr.heap.size + 1) hH ?_; intro g cap w1 hown1 hgrow hat hlt1))
          all_goals
            have hb1 : Below (w.heap.size + 1) wr w1 := ((Below.alloc (Below.refl (w.heap.size + 1) wr).drew hsize _).grown hgrow (by rw [hH]; omega) (fun k hk => (hown.lt k hk).1))
            have Hrel := Lib.hid (show STRel w l (.slice (some ⟨g, 0, none⟩) (ys.length + 2) cap) (.int .i64 (k + 1 : Nat)) w1 from ⟨k + 1, ys ++ [.int .u8 ((hexD a).toNat : Nat), .int .u8 ((hexD b).toNat : Nat)], rfl, by omega, by rw [Hn.out, List.map_append, ← Hys.out]; rfl, by rw [List.length_append]; exact hown1, Same.trans_below HS.out hb1, Nat.le_trans hsize hb1.size⟩)
            clear hown1 hgrow hat hlt1 hb1 hown2 hnews hone hH hbase h63 hby
            go_wp2
            go_roundw
            case rel => exact Hrel.out
            case measure => first | (simp [intOf]; done) | (simp [intOf]; omega)
    · obtain rfl : k = 16 := by omega
      rw [Hys.out] at hown
      have hcv := conv_own _ hown
      clear hown
      go_wp2
      go_ret
      exact ⟨rfl, HS.out⟩
end Go.Proofs.YtabniphnmlbkfaaDoor
