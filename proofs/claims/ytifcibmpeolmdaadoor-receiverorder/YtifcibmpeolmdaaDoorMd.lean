/- Proved: what math/bits' OnesCount64 and sack's Count, Base, Full, New and Copy answer, and what they do to memory. Condition: the map lies in memory (M), or the pointer is nil; the library's table is as its text lays it; numbers fit. -/
import Derived.Test.YtifcibmpeolmdaaDoorMb
import Derived.Laws.Bits128
import Derived.Handy
namespace Go.Proofs.YtifcibmpeolmdaaDoor
open Go.RowKit

theorem m85 : mask 85 8 = 6148914691236517205 := rfl
theorem m51 : mask 51 8 = 3689348814741910323 := rfl
theorem m15 : mask 15 8 = 1085102592571150095 := rfl
theorem wrap_nat (x : Nat) (h : x < 18446744073709551616) : IntKind.u64.wrap (x : Int) = x := by rw [IntKind.wrap_u64]; omega
set_option maxRecDepth 100000 in
theorem ones_at (x : Nat) (hx : x < 18446744073709551616) (w : World) : Calls Tryd.prog 50 #[.int .u64 x] w fun e w' => e = .returned (.int .i64 (popN x : Nat)) ∧ w' = w := by
  obtain ⟨P, hP⟩ : ∃ P, popN x = P := ⟨_, rfl⟩
  rw [hP]
  unfold popN at hP
  simp only at hP
  rw [m85, m51, m15] at hP
  have h1 := and64 (x / 2) 6148914691236517205 (by omega) (by omega)
  have h2 := and64 x 6148914691236517205 hx (by omega)
  rw [show ((6148914691236517205 : Nat) : Int) = 6148914691236517205 from rfl] at h1 h2
  have b1 : x / 2 &&& 6148914691236517205 ≤ 6148914691236517205 := Nat.and_le_right
  have b2 : x &&& 6148914691236517205 ≤ 6148914691236517205 := Nat.and_le_right
  rw [show ((x / 2 : Nat) : Int) = (x : Int) / 2 by omega] at h1
  generalize x / 2 &&& 6148914691236517205 = a1 at *
  generalize x &&& 6148914691236517205 = a2 at *
  have w1 := wrap_nat (a1 + a2) (by omega)
  have c1 : ((a1 + a2 : Nat) : Int) = (a1 : Int) + a2 := by omega
  have l1 : a1 + a2 ≤ 12297829382473034410 := by omega
  rw [c1] at w1
  have w1b := w1.trans c1.symm
  generalize a1 + a2 = a at *
  clear w1 c1 b1 b2
  have h3 := and64 (a / 4) 3689348814741910323 (by omega) (by omega)
  have h4 := and64 a 3689348814741910323 (by omega) (by omega)
  rw [show ((3689348814741910323 : Nat) : Int) = 3689348814741910323 from rfl] at h3 h4
  have b1 : a / 4 &&& 3689348814741910323 ≤ 3689348814741910323 := Nat.and_le_right
  have b2 : a &&& 3689348814741910323 ≤ 3689348814741910323 := Nat.and_le_right
  rw [show ((a / 4 : Nat) : Int) = (a : Int) / 4 by omega] at h3
  generalize a / 4 &&& 3689348814741910323 = d1 at *
  generalize a &&& 3689348814741910323 = d2 at *
  have w2 := wrap_nat (d1 + d2) (by omega)
  have c2 : ((d1 + d2 : Nat) : Int) = (d1 : Int) + d2 := by omega
  have l2 : d1 + d2 ≤ 7378697629483820646 := by omega
  rw [c2] at w2
  have w2b := w2.trans c2.symm
  generalize d1 + d2 = b at *
  clear w2 c2 b1 b2
  have w3 := wrap_nat (b / 16 + b) (by omega)
  have c3 : ((b / 16 + b : Nat) : Int) = (b : Int) / 16 + b := by omega
  have l3 : b / 16 + b < 18446744073709551616 := by omega
  rw [c3] at w3
  have w3b := w3.trans c3.symm
  generalize b / 16 + b = z at *
  clear w3 c3
  have h5 := and64 z 1085102592571150095 l3 (by omega)
  rw [show ((1085102592571150095 : Nat) : Int) = 1085102592571150095 from rfl] at h5
  have b1 : z &&& 1085102592571150095 ≤ 1085102592571150095 := Nat.and_le_right
  generalize z &&& 1085102592571150095 = c at *
  have w4 := wrap_nat (c + c / 256) (by omega)
  have c4 : ((c + c / 256 : Nat) : Int) = (c : Int) + c / 256 := by omega
  have l4 : c + c / 256 ≤ 1152921504606846976 := by omega
  rw [c4] at w4
  have w4b := w4.trans c4.symm
  generalize c + c / 256 = d at *
  clear w4 c4
  have w5 := wrap_nat (d + d / 65536) (by omega)
  have c5 : ((d + d / 65536 : Nat) : Int) = (d : Int) + d / 65536 := by omega
  have l5 : d + d / 65536 ≤ 2305843009213693952 := by omega
  rw [c5] at w5
  have w5b := w5.trans c5.symm
  generalize d + d / 65536 = e at *
  clear w5 c5
  have w6 := wrap_nat (e + e / 4294967296) (by omega)
  have c6 : ((e + e / 4294967296 : Nat) : Int) = (e : Int) + e / 4294967296 := by omega
  have l6 : e + e / 4294967296 ≤ 4611686018427387904 := by omega
  rw [c6] at w6
  have w6b := w6.trans c6.symm
  generalize e + e / 4294967296 = f at *
  clear w6 c6
  have hw : wrap64 (f : Int) = f := by unfold wrap64; omega
  have h7 := i64_and127 (f : Int)
  have HP := Lib.hid hP
  clear l1 l2 l3 l4 l5 b1 hP hx
  have HL := Lib.hid l6
  clear l6
  go_enter Tryd.func50, Tryd.ntmps50
  go_wp2
  go_ret
  rw [← HP.out]
  refine ⟨?_, rfl⟩
  rw [show ((f % 128 : Nat) : Int) = (f : Int) % 128 by omega]
  rfl
end Go.Proofs.YtifcibmpeolmdaaDoor

/- Proved: what sack's Count, Base, Full, New and Copy answer, and what they do to memory. Condition: the map lies in memory (M), or the pointer is nil; the library's table is as its text lays it. -/
namespace Go.Proofs.YtifcibmpeolmdaaDoor
open Go.RowKit

set_option maxRecDepth 100000 in
theorem index_word (l : List Bool) (k : Nat) (hk : k < 4) (w : World) : (Instr.index 84 (.agg (wc l)) (.int .i64 k)).run Tryd.prog w = .ok (.int .u64 (wd l k : Nat)) w := by
  have hn : Tryd.prog.arrayLen 84 = 4 := by kernel_rfl
  rcases (show k = 0 ∨ k = 1 ∨ k = 2 ∨ k = 3 by omega) with rfl | rfl | rfl | rfl <;> go_simp <;> rfl
def CtRel (l : List Bool) (w : World) (cv iv : Value) (wr : World) : Prop := wr = w ∧ ∃ k : Nat, iv = .int .i64 k ∧ k ≤ 4 ∧ cv = .int .i64 (cntN (l.take (64 * k)) : Nat)

set_option maxRecDepth 100000 in
theorem count_at (b : Nat) (l : List Bool) (w : World) (h : M w b l) : Calls Tryd.prog 26 #[.pointer (some ⟨b, 0, none⟩)] w fun e w' => e = .returned (.int .i64 (cntN l : Nat)) ∧ w' = w := by
  have hf := h.few
  obtain ⟨n, hn⟩ : ∃ n, n = 4 := ⟨4, rfl⟩
  have hsz : ∀ w, (Go.sizeOf 84).run Tryd.prog w = .ok n w := fun w => by rw [hn]; exact Tryd.sizeOf84 w
  have hn0 : ¬ n = 0 := by omega
  have hl := h.words hn
  have HI := Lib.hid (index_word l)
  generalize wc l = C at *
  clear hn h
  go_enter Tryd.func26, Tryd.ntmps26
  go_wp2
  go_loopw [3, 12] (fun c i wr => CtRel l w c i wr) (fun _ i _ => 5 - (intOf i).toNat)
  case atStart => exact ⟨rfl, 0, rfl, by omega, rfl⟩
  case round =>
    obtain ⟨rfl, k, rfl, hk, rfl⟩ := hrel
    by_cases hk4 : k < 4
    · have hi := HI.out k hk4
      have HO := Lib.hid (ones_at (wd l k) (wd_lt l k) wr)
      have HC := Lib.hid (cnt_words l hf k)
      have h1 := cnt_le (l.take (64 * k))
      rw [List.length_take] at h1
      have h2 : popN (wd l k) ≤ 256 := by
        have := cnt_le (l.take (64 * (k + 1)))
        rw [List.length_take] at this
        have := HC.out
        omega
      generalize wd l k = x at *
      generalize popN x = p at *
      generalize cntN (l.take (64 * k)) = c at *
      go_wp2_with fail
      refine HO.out.mono ?_
      rintro e w1 ⟨rfl, rfl⟩
      go_wp2
      go_roundw
      case rel => exact ⟨rfl, k + 1, by go_num, by omega, by rw [← HC.out]; go_num⟩
      case measure => simp [intOf]; omega
    · obtain rfl : k = 4 := by omega
      go_wp2
      go_ret
      rw [List.take_of_length_le (by omega)]
      exact ⟨rfl, rfl⟩
set_option maxRecDepth 100000 in
theorem count_nil (w : World) : Calls Tryd.prog 26 #[.pointer none] w fun e w' => e = .returned (.int .i64 0) ∧ w' = w := by
  go_enter Tryd.func26, Tryd.ntmps26
  go_wp2
  go_ret
  exact ⟨rfl, rfl⟩
set_option maxRecDepth 100000 in
theorem base_nil (w : World) : Calls Tryd.prog 38 #[.pointer none] w fun e w' => e = .returned (.int .i64 0) ∧ w' = w := by
  go_enter Tryd.func38, Tryd.ntmps38
  go_wp2
  go_ret
  exact ⟨rfl, rfl⟩
def BsRel (l : List Bool) (w : World) (iv : Value) (wr : World) : Prop := wr = w ∧ ∃ k : Nat, iv = .int .i64 k ∧ 64 * k ≤ l.length ∧ baseN l = 64 * k + baseN (l.drop (64 * k))

set_option maxRecDepth 100000 in
theorem mbase_at (b : Nat) (l : List Bool) (w : World) (h : M w b l) : Calls Tryd.prog 38 #[.pointer (some ⟨b, 0, none⟩)] w fun e w' => e = .returned (.int .i64 (baseN l : Nat)) ∧ w' = w := by
  have hf := h.few
  obtain ⟨n, hn⟩ : ∃ n, n = 4 := ⟨4, rfl⟩
  have hsz : ∀ w, (Go.sizeOf 84).run Tryd.prog w = .ok n w := fun w => by rw [hn]; exact Tryd.sizeOf84 w
  have hn0 : ¬ n = 0 := by omega
  have hl := h.words hn
  have HI := Lib.hid (index_word l)
  have c0 := h.n
  have HT := Lib.hid h.tab
  generalize wc l = C at *
  clear hn h
  go_enter Tryd.func38, Tryd.ntmps38
  go_wp2
  go_loopw [11] (fun i wr => BsRel l w i wr) (fun i _ => 5 - (intOf i).toNat)
  case atStart => exact ⟨rfl, 0, rfl, by omega, by simp⟩
  case round =>
    obtain ⟨rfl, k, rfl, hk, hb⟩ := hrel
    have HB := Lib.hid hb
    clear hb
    by_cases hk4 : k < 4
    · have hi := HI.out k hk4
      have hx := wd_lt l k
      by_cases hfull : wd l k = 18446744073709551615
      · obtain ⟨h1, h2⟩ := base_next l k hfull
        have HB2 := Lib.hid (show baseN l = 64 * (k + 1) + baseN (l.drop (64 * (k + 1))) by rw [HB.out, h1]; omega)
        rw [hfull] at hi
        clear h1 hx hfull
        go_wp2
        go_roundw
        case rel => exact ⟨rfl, k + 1, by go_num, h2, HB2.out⟩
        case measure => simp [intOf]; omega
      · obtain ⟨h1, h2⟩ := base_word l k hfull
        have hnot := not64 (wd l k) hx
        have HZ := Lib.hid (tz_at (18446744073709551615 - wd l k) (by omega) (by omega) wr HT.out)
        rw [h1] at HB
        generalize 18446744073709551615 - wd l k = y at *
        generalize Lib.ctz 64 y = z at *
        have hne : ((wd l k : Int) != 18446744073709551615) = true := by
          generalize wd l k = x at *
          simp; omega
        generalize wd l k = x at *
        clear h1 hfull hx
        go_wp2_with fail
        refine HZ.out.mono ?_
        rintro e w1 ⟨rfl, rfl⟩
        go_wp2
        go_ret
        rw [HB.out]
        refine ⟨?_, rfl⟩
        rw [show ((64 * k + z : Nat) : Int) = (k : Int) * 64 + z by omega]
        rfl
    · obtain rfl : k = 4 := by omega
      have h3 : l.length = 256 := by omega
      have h4 := HB.out
      rw [List.drop_of_length_le (by omega), show baseN [] = 0 from rfl] at h4
      go_wp2
      go_ret
      rw [h4]
      exact ⟨rfl, rfl⟩
set_option maxRecDepth 100000 in
theorem full_nil (w : World) : Calls Tryd.prog 41 #[.pointer none] w fun e w' => e = .returned (.bool false) ∧ Keep w w' := by
  go_enter Tryd.func41, Tryd.ntmps41
  go_wp2_with fail
  go_region
  go_wp2
  go_ret
  exact ⟨rfl, (Keep.refl _).drew⟩
set_option maxRecDepth 100000 in
theorem full_at (b : Nat) (l : List Bool) (w : World) (h : M w b l) : Calls Tryd.prog 41 #[.pointer (some ⟨b, 0, none⟩)] w fun e w' => e = .returned (.bool (decide (baseN l = l.length))) ∧ Keep w w' := by
  have HB : Hid (∀ u : KW w, Calls Tryd.prog 38 #[.pointer (some ⟨b, 0, none⟩)] u.1 fun e w'' => e = .returned (.int .i64 (baseN l : Nat)) ∧ ∃ m : KW w, w'' = m.1) := fun u => keep_at (fun w1 k1 => by
    refine (mbase_at b l w1 (h.keep k1)).mono ?_
    rintro e w2 ⟨rfl, rfl⟩
    exact ⟨rfl, Keep.refl _⟩) u
  have hc : ∀ u : KW w, u.1.cell? ⟨b, 0, none⟩ = some (.int .i64 l.length) := fun u => (h.keep u.2).n
  clear h
  generalize baseN l = B at *
  generalize l.length = N at *
  go_enter Tryd.func41, Tryd.ntmps41
  go_wp2_with fail
  refine wp_region_keep (Keep.refl _) (by kernel_rfl) (by kernel_rfl) ?_
  repeat (first | go_big_quiet_step (fail) | quiet_step (fail))
  first | go_big_quiet_step (exact HB.out _) | quiet_step (exact HB.out _)
  repeat (first | go_big_quiet_step (fail) | quiet_step (fail))
  refine wpQuiet_nil ?_
  rintro w1 ⟨⟨w2, k2⟩, hw⟩
  obtain rfl : w2 = w1 := hw.symm
  go_wp2
  go_ret
  refine ⟨?_, k2⟩
  have e : ((B : Int) == (N : Int)) = decide (B = N) := by
    rw [Bool.eq_iff_iff]
    simp
    omega
  rw [← e]
  rfl

theorem infoM : (Tryd.prog.info? 86).map (fun i => (i.zero, i.size)) = some (some (.agg (mc [])), 5) := by kernel_rfl
theorem mc_fill (n : Nat) : (mc []).setIfInBounds 0 (.int .i64 n) = mc (List.replicate n false) := by
  rw [mc_new, mc_zero]; rfl
set_option maxRecDepth 100000 in
theorem new_bad (n : Int) (w : World) (h : n < 1 ∨ 256 < n) : Calls Tryd.prog 33 #[.int .i64 n] w fun e w' => e = .returned (.tuple #[.pointer none, .int .i64 1]) ∧ w' = w := by
  by_cases h1 : n < 1
  · have hd : decide (n < 1) = true := decide_eq_true h1
    go_enter Tryd.func33, Tryd.ntmps33
    go_wp2
    go_ret2
    exact ⟨rfl, rfl⟩
  · have hd : decide (n < 1) = false := decide_eq_false h1
    have hg : n > 256 := by omega
    go_enter Tryd.func33, Tryd.ntmps33
    go_wp2
    go_ret2
    exact ⟨rfl, rfl⟩
set_option maxRecDepth 100000 in
theorem new_at (n : Nat) (h1 : 1 ≤ n) (h2 : n ≤ 256) (w : World) (ht : Tab w) : Calls Tryd.prog 33 #[.int .i64 n] w fun e w' => ∃ b, e = .returned (.tuple #[.pointer (some ⟨b, 0, none⟩), .int .i64 0]) ∧ w.heap.size ≤ b ∧ M w' b (List.replicate n false) ∧ Keep w w' := by
  have hd : decide ((n : Int) < 1) = false := decide_eq_false (by omega)
  have hg : ¬ (n : Int) > 256 := by omega
  obtain ⟨hz, _⟩ := zero_of_info infoM
  have hfill := mc_fill n
  have hpos := ht.pos
  have HT := Lib.hid ht
  clear ht
  go_enter Tryd.func33, Tryd.ntmps33
  go_wp2
  go_ret2
  exact ⟨_, rfl, Nat.le_refl _, ⟨heap_alloc_last w _, by omega, by rw [List.length_replicate]; exact h2, HT.out.keep ((Keep.refl w).alloc _)⟩, (Keep.refl w).alloc _⟩
set_option maxRecDepth 100000 in
theorem copy_nil (w : World) : Calls Tryd.prog 49 #[.pointer none] w fun e w' => e = .returned (.pointer none) ∧ w' = w := by
  go_enter Tryd.func49, Tryd.ntmps49
  go_wp2
  go_ret
  exact ⟨rfl, rfl⟩
set_option maxRecDepth 100000 in
theorem copy_at (b : Nat) (l : List Bool) (w : World) (h : M w b l) : Calls Tryd.prog 49 #[.pointer (some ⟨b, 0, none⟩)] w fun e w' => ∃ c, e = .returned (.pointer (some ⟨c, 0, none⟩)) ∧ w.heap.size ≤ c ∧ M w' c l ∧ Keep w w' := by
  obtain ⟨hz, _⟩ := zero_of_info infoM
  obtain ⟨n, hn⟩ : ∃ n, n = 5 := ⟨5, rfl⟩
  have hsz : ∀ w, (Go.sizeOf 86).run Tryd.prog w = .ok n w := fun w => by rw [hn]; exact Tryd.sizeOf86 w
  have hn0 : ¬ n = 0 := by omega
  have hl := h.whole hn
  have hblk := heap_alloc_last w (.cells (mc []) 86 (0, 0))
  have hst := M.store hblk l
  have hzs : (mc l).size = n := by rw [hn]; rfl
  have HM := Lib.hid (show M ((w.alloc (.cells (mc []) 86 (0, 0))).setRow w.heap.size (mc l)) w.heap.size l from
    ⟨block_row hblk _, by have := h.tab.pos; omega, h.few, h.tab.keep (((Keep.refl w).alloc _).setRow _ _ (Nat.le_refl _))⟩)
  have HK := Lib.hid (((Keep.refl w).alloc (.cells (mc []) 86 (0, 0))).setRow w.heap.size (mc l) (Nat.le_refl _))
  clear hn h hblk
  generalize mc l = C at *
  generalize mc [] = Z at *
  go_enter Tryd.func49, Tryd.ntmps49
  go_wp2
  go_ret
  exact ⟨_, rfl, Nat.le_refl _, HM.out, HK.out⟩
end Go.Proofs.YtifcibmpeolmdaaDoor
