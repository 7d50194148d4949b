/- Proved: several texts in one: tokens in memory; what lz's put and pays do to memory and answer; what lz's same answers: how many bytes are the same from two places on; what lz's note answers and does to its map; plain steps of split; what lz's split answers: tokens that say the text, none of which takes more than nine bits a byte. Each with its conditions where it stands. -/
import Derived.Test.YtpimecnpdpcceaaGreatMl
import Derived.Test.YtpimecnpdpcceaaGreatMb
import Derived.Test.YtpimecnpdpcceaaGreatMt
import Derived.Handy

/- Proved: tokens in memory; what lz's put and pays do to memory and answer. Condition: the writer is known (Wr) and has fewer than 10^12 bits; numbers fit. -/
namespace Go.Proofs.YtpimecnpdpcceaaGreat
open Go.RowKit

def tl (t : Lz.Tk) : List Value := [.int .u8 (t.b.toNat : Nat), .int .i64 (t.back : Nat), .int .i64 (t.len : Nat)]
def tc (t : Lz.Tk) : Array Value := (tl t).toArray
def zeroT : Lz.Tk := ⟨0, 0, 0⟩
instance : Inhabited Lz.Tk := ⟨zeroT⟩
theorem tl_len (t : Lz.Tk) : (tl t).length = 3 := rfl
theorem tl_one (t : Lz.Tk) : ∀ v ∈ tl t, v.oneCell' = true := by
  intro v hv
  simp [tl] at hv
  rcases hv with rfl | rfl | rfl <;> rfl
theorem infoT : (Tryz.prog.info? 119).map (fun i => (i.zero, i.size, i.bytes)) = some (some (.agg (tc zeroT)), 3, 24) := by kernel_rfl
theorem elT : El 82 119 3 24 tl := ⟨by kernel_rfl, by
  obtain ⟨it, h1, h2, h3, h4⟩ := info_all 119 _ _ _ infoT
  exact ⟨it, _, h1, h2, h3, h4, rfl⟩, tl_len, tl_one, by omega⟩
/-- A token in a block of its own. -/
def TAt (w : World) (b : Nat) (t : Lz.Tk) : Prop := w.heap[b]? = some (.cells (tc t) 119 (0, 0))
theorem TAt.keep {w w' : World} {b : Nat} {t : Lz.Tk} (h : TAt w b t) (k : Keep w w') : TAt w' b t := k.obj h
theorem TAt.new (w : World) (t : Lz.Tk) : TAt (w.alloc (.cells (tc t) 119)) w.heap.size t := heap_alloc_last w _
theorem TAt.c0 {w : World} {b : Nat} {t : Lz.Tk} (h : TAt w b t) : w.cell? ⟨b, 0, none⟩ = some (.int .u8 (t.b.toNat : Nat)) := cell_obj h rfl
theorem TAt.c1 {w : World} {b : Nat} {t : Lz.Tk} (h : TAt w b t) : w.cell? ⟨b, 1, none⟩ = some (.int .i64 (t.back : Nat)) := cell_obj h rfl
theorem TAt.c2 {w : World} {b : Nat} {t : Lz.Tk} (h : TAt w b t) : w.cell? ⟨b, 2, none⟩ = some (.int .i64 (t.len : Nat)) := cell_obj h rfl
theorem TAt.whole {w : World} {b n : Nat} {t : Lz.Tk} (h : TAt w b t) (hn : n = 3) : (loadCellsFrom ⟨b, 0, none⟩ 0 n #[]).run Tryz.prog w = .ok (tc t) w := load_block n (by rw [hn]; rfl) h

/-! ### The two frames -/
theorem bo {b : Nat} {w w' : World} (h : Bit.Only b w w') : Only b w w' := ⟨h.os, h.tape, h.output, h.size, h.block⟩
theorem ob {b : Nat} {w w' : World} (h : Only b w w') : Bit.Only b w w' := ⟨h.os, h.tape, h.output, h.size, h.block⟩
theorem bk {w w' : World} (h : Bit.Same w w') : Keep w w' := h
theorem kb {w w' : World} (h : Keep w w') : Bit.Same w w' := h
theorem TAt.only {w w' : World} {b g : Nat} {t : Lz.Tk} (h : TAt w g t) (k : Bit.Only b w w') (hg : g ≠ b) : TAt w' g t := (bo k).obj h hg

theorem infoW : (Tryz.prog.info? 117).map (fun i => (i.zero, i.size)) = some (some (.agg (Bit.wc (.pointer none) Bit.zl 0)), 66) := by kernel_rfl
/-- A writer that was just made. -/
theorem newWr (w : World) : Bit.Wr (w.alloc (.cells (Bit.wc (.pointer none) Bit.zl 0) 117)) w.heap.size [] :=
  ⟨.pointer none, [], Bit.zl, heap_alloc_last w _, rfl, rfl, rfl, rfl⟩

theorem bits01 : Bit.bitsL 0 (Bit.manyN 1) = [false] := by decide
theorem bits11 : Bit.bitsL 1 (Bit.manyN 1) = [true] := by decide
theorem many8 : Bit.manyN 8 = 8 := by decide
theorem cap_id {v : Nat} (h : v < 2 ^ 63) : Bit.capN v = v := by unfold Bit.capN; omega

set_option maxRecDepth 100000 in
theorem zput (b : Nat) (t : Lz.Tk) (bs : List Bool) (w : World) (h : Bit.Wr w b bs) (hl : bs.length + 1000 ≤ 1000000000000) (hb : t.back < 2 ^ 62) (hn : t.len < 2 ^ 62) :
    Calls Tryz.prog 66 #[.pointer (some ⟨b, 0, none⟩), .agg (tc t)] w (Bit.WrPost b w (bs ++ Lz.bitsT t)) := by
  have hlt := h.lt
  have hW0 := Lib.hid (h.same ((Bit.Same.refl w).alloc (.cells (tc t) 119)))
  have HT0 := Lib.hid (TAt.new w t)
  have HO0 := Lib.hid (show Bit.Only b w (w.alloc (.cells (tc t) 119)) from ob (Only.keep ((Keep.refl w).alloc _)))
  have hne : w.heap.size ≠ b := by omega
  have HB : Hid (Lz.bitsT t = if t.len = 0 then [false] ++ Bit.bitsL t.b.toNat 8 else [true] ++ (Bit.codeL (t.back - 1) ++ Bit.codeL (t.len - 3))) := by unfold Lz.bitsT; rfl
  have d2 := HT0.out.c2
  by_cases h0 : t.len = 0
  · rw [h0] at d2
    go_enter Tryz.func66, Tryz.ntmps66
    go_wp2_with fail
    refine (Bit.wbits_at b 0 1 bs _ (by omega) hW0.out (by omega)).mono ?_
    rintro e w1 ⟨rfl, h1, o1⟩
    have d0 := (HT0.out.only o1 hne).c0
    have HO1 := Lib.hid (HO0.out.trans o1)
    have H1 := Lib.hid h1
    clear d2 h1 o1
    have hb8 : t.b.toNat < 256 := UInt8.toNat_lt _
    generalize t.b.toNat = c at *
    go_wp2_with fail
    refine (Bit.wbits_at b c 8 _ _ (by omega) H1.out (by rw [List.length_append, Bit.bitsL_len, show Bit.manyN 1 = 1 by decide]; omega)).mono ?_
    rintro e w2 ⟨rfl, h2, o2⟩
    have HF := Lib.hid (show Bit.Wr w2 b (bs ++ Lz.bitsT t) from by rw [HB.out, if_pos h0, ← List.append_assoc, ← bits01, ← many8]; exact h2)
    have HO2 := Lib.hid (HO1.out.trans o2)
    clear h2 o2
    go_wp2
    go_returns
    exact ⟨rfl, HF.out, HO2.out⟩
  · have h0i : ¬ ((t.len : Nat) : Int) = 0 := by omega
    go_enter Tryz.func66, Tryz.ntmps66
    go_wp2_with fail
    refine (Bit.wbits_at b 1 1 bs _ (by omega) hW0.out (by omega)).mono ?_
    rintro e w1 ⟨rfl, h1, o1⟩
    have HT1 := Lib.hid (HT0.out.only o1 hne)
    have d1 := HT1.out.c1
    have HO1 := Lib.hid (HO0.out.trans o1)
    have H1 := Lib.hid (show Bit.Wr w1 b (bs ++ [true]) from by rw [← bits11]; exact h1)
    clear d2 h1 o1 HT0
    obtain ⟨B, hB⟩ : ∃ B : Nat, B = t.back - 1 := ⟨_, rfl⟩
    obtain ⟨N, hN⟩ : ∃ N : Nat, N = t.len - 3 := ⟨_, rfl⟩
    have hmax : ∀ w, (Builtin.max_ #[3, 3] 3 #[.int .i64 (t.back : Nat), .int .i64 1]).run Tryz.prog w = .ok (.int .i64 ((B : Int) + 1)) w := fun w => by
      rw [run_max_int2, show (if (1 : Int) > (t.back : Nat) then (1 : Int) else (t.back : Nat)) = (B : Int) + 1 by split <;> omega]
    have hmax2 : ∀ w, (Builtin.max_ #[3, 3] 3 #[.int .i64 (t.len : Nat), .int .i64 3]).run Tryz.prog w = .ok (.int .i64 ((N : Int) + 3)) w := fun w => by
      rw [run_max_int2, show (if (3 : Int) > (t.len : Nat) then (3 : Int) else (t.len : Nat)) = (N : Int) + 3 by split <;> omega]
    have hBl : B < 2 ^ 62 := by omega
    have hNl : N < 2 ^ 62 := by omega
    have HBN := Lib.hid (And.intro hB hN)
    clear hB hN
    go_wp2_with fail
    refine (Bit.wcode_at b B _ _ (by omega) H1.out (by rw [List.length_append]; simp; omega)).mono ?_
    rintro e w2 ⟨rfl, h2, o2⟩
    have HT2 := Lib.hid (HT1.out.only o2 hne)
    have e2 := HT2.out.c2
    have HO2 := Lib.hid (HO1.out.trans o2)
    rw [cap_id (by omega)] at h2
    have H2 := Lib.hid h2
    clear h2 o2 d1 HT1
    have hc1 := Bit.codeL_short B
    rw [cap_id (by omega)] at hc1
    have HC1 := Lib.hid hc1
    clear hc1
    go_wp2_with fail
    refine (Bit.wcode_at b N _ _ (by omega) H2.out (by have := HC1.out; rw [List.length_append, List.length_append]; simp; omega)).mono ?_
    rintro e w3 ⟨rfl, h3, o3⟩
    rw [cap_id (by omega)] at h3
    have HF := Lib.hid (show Bit.Wr w3 b (bs ++ Lz.bitsT t) from by
      rw [HB.out, if_neg h0, ← HBN.out.1, ← HBN.out.2, ← List.append_assoc, ← List.append_assoc]
      exact h3)
    have HO3 := Lib.hid (HO2.out.trans o3)
    clear h3 o3 e2 H2 HT2
    go_wp2
    go_returns
    exact ⟨rfl, HF.out, HO3.out⟩

set_option maxRecDepth 100000 in
theorem zpays (t : Lz.Tk) (hb : t.back < 2 ^ 40) (hn : t.len < 2 ^ 40) : GivesK Tryz.prog 70 #[.agg (tc t)] (.bool (decide ((Lz.bitsT t).length < 9 * t.len))) := by
  intro w
  obtain ⟨m, hm⟩ : ∃ m : Nat, m = (Lz.bitsT t).length := ⟨_, rfl⟩
  rw [← hm]
  have HM := Lib.hid hm
  clear hm
  obtain ⟨hz, hi⟩ := zero_of_info infoW
  obtain ⟨n, hn3⟩ : ∃ n, n = 3 := ⟨3, rfl⟩
  have hsz : ∀ w, (Go.sizeOf 119).run Tryz.prog w = .ok n w := fun w => by rw [hn3]; exact Tryz.sizeOf119 w
  have hn0 : ¬ n = 0 := by omega
  have HT0 := Lib.hid ((TAt.new w t).keep ((Keep.refl _).alloc (.cells (Bit.wc (.pointer none) Bit.zl 0) 117)))
  have HW0 := Lib.hid (show Bit.Wr ((w.alloc (.cells (tc t) 119)).alloc (.cells (Bit.wc (.pointer none) Bit.zl 0) 117)) (w.heap.size + 1) [] from by
    have := newWr (w.alloc (.cells (tc t) 119))
    rwa [show (w.alloc (.cells (tc t) 119)).heap.size = w.heap.size + 1 by simp] at this)
  have HK0 := Lib.hid (show Keep w ((w.alloc (.cells (tc t) 119)).alloc (.cells (Bit.wc (.pointer none) Bit.zl 0) 117)) from ((Keep.refl _).alloc _).alloc _)
  have hld := HT0.out.whole hn3
  have HN := Lib.hid hn3
  clear hn3
  go_enter Tryz.func70, Tryz.ntmps70
  go_wp2_with fail
  refine (zput _ t [] _ HW0.out (by simp) (by omega) (by omega)).mono ?_
  rintro e w1 ⟨rfl, h1, o1⟩
  rw [List.nil_append] at h1
  have d2 : ∀ u : KW w1, u.1.cell? ⟨w.heap.size, 2, none⟩ = some (.int .i64 (t.len : Nat)) := fun u => ((HT0.out.only o1 (by omega)).keep u.2).c2
  have HL := Lib.hid (fun (w2 : World) (hk : Keep w1 w2) => (Bit.wlen_at (w.heap.size + 1) _ w2 (h1.same (kb hk))).mono (R' := fun e w' => e = .returned (.int .i64 ((Lz.bitsT t).length : Nat)) ∧ Keep w2 w') fun e w' ⟨a, b⟩ => ⟨a, by rw [b]; exact Keep.refl _⟩)
  have HK1 := Lib.hid (Only.made HK0.out (bo o1) (by omega))
  clear h1 o1 hld HT0 HW0
  rw [← HM.out] at HL
  go_wp2_with fail
  refine wp_region_keep (Keep.refl w1) (by kernel_rfl) (by kernel_rfl) ?_
  repeat (first | go_big_quiet_step (exact keep_at HL.out _) | quiet_step (exact keep_at HL.out _))
  refine wpQuiet_nil ?_
  rintro w6 ⟨⟨w7, b7⟩, rfl⟩
  go_wp2
  go_ret
  refine ⟨?_, HK1.out.trans b7⟩
  rw [show decide (m < 9 * t.len) = decide ((m : Int) < (t.len : Int) * 9) by rw [decide_eq_decide]; omega]
  rfl
end Go.Proofs.YtpimecnpdpcceaaGreat

/- Proved: what lz's same answers: how many bytes are the same from two places on. Condition: the one place is ahead of the other; the text's length fits. -/
namespace Go.Proofs.YtpimecnpdpcceaaGreat
open Go.RowKit

theorem com_drop (x y : List UInt8) (i j : Nat) (hi : i < x.length) (hj : j < y.length) : Dm.com (x.drop i) (y.drop j) = if x[i] = y[j] then Dm.com (x.drop (i + 1)) (y.drop (j + 1)) + 1 else 0 := by
  rw [List.drop_eq_getElem_cons hi, List.drop_eq_getElem_cons hj]
  rfl
theorem com_endl (x y : List UInt8) (i : Nat) (hi : x.length ≤ i) : Dm.com (x.drop i) y = 0 := by
  rw [List.drop_of_length_le hi, Dm.com_nil]
theorem com_endr (x y : List UInt8) (j : Nat) (hj : y.length ≤ j) : Dm.com x (y.drop j) = 0 := by
  rw [List.drop_of_length_le hj]
  cases x <;> rfl

def SmRel (w : World) (s : List UInt8) (f a : Nat) (i : Value) (wr : World) : Prop :=
  ∃ k : Nat, i = .int .i64 k ∧ a + k ≤ s.length ∧ Dm.com (s.drop f) (s.drop a) = k + Dm.com (s.drop (f + k)) (s.drop (a + k)) ∧ Keep w wr

set_option maxRecDepth 100000 in
theorem zsame (s : List UInt8) (f a : Nat) (hf : f < a) (ha : a ≤ s.length) (hs : s.length ≤ 1000000000000) : GivesK Tryz.prog 69 #[.string ⟨s.toArray⟩, .int .i64 f, .int .i64 a] (.int .i64 (Dm.com (s.drop f) (s.drop a) : Nat)) := by
  intro w
  obtain ⟨R, hR⟩ : ∃ R : Nat, R = Dm.com (s.drop f) (s.drop a) := ⟨_, rfl⟩
  rw [← hR]
  have HR := Lib.hid hR
  clear hR
  have HI := Lib.hid (fun (i : Nat) (hi : i < s.length) (w : World) => Bit.index_at s i hi w)
  have hlen : (⟨s.toArray⟩ : ByteArray).size = s.length := by simp [ByteArray.size]
  have Hf := Lib.hid hf
  go_enter Tryz.func69, Tryz.ntmps69
  go_wp2
  go_loopw [7] (fun i wr => SmRel w s f a i wr) (fun i _ => s.length - (intOf i).toNat)
  case atStart => exact ⟨0, rfl, by omega, by simp, Keep.refl _⟩
  case round =>
    obtain ⟨k, rfl, hk, hc, hw⟩ := hrel
    by_cases h1 : a + k < s.length
    · have hfk : f + k < s.length := by have := Hf.out; omega
      have i1 := HI.out (f + k) hfk
      have i2 := HI.out (a + k) h1
      have HC := Lib.hid hc
      have HCD := Lib.hid (com_drop s s (f + k) (a + k) hfk h1)
      have HK := Lib.hid hw
      generalize (s[f + k]'hfk) = x at *
      generalize (s[a + k]'h1) = y at *
      clear hc hw
      rw [show ((f + k : Nat) : Int) = (f : Int) + k by omega] at i1
      rw [show ((a + k : Nat) : Int) = (a : Int) + k by omega] at i2
      by_cases hxy : x = y
      · subst hxy
        have hlt : (a : Int) + k < s.length := by omega
        go_wp2_with fail
        refine wp_region_keep (Keep.refl wr) (by kernel_rfl) (by kernel_rfl) ?_
        repeat (first | go_big_quiet_step (fail) | quiet_step (fail))
        refine wpQuiet_nil ?_
        rintro w6 ⟨⟨w7, b7⟩, rfl⟩
        go_wp2
        go_roundw
        case rel => exact ⟨k + 1, by go_num, by omega, by rw [HC.out, HCD.out, if_pos trivial, Nat.add_assoc, Nat.add_assoc]; omega, HK.out.trans b7⟩
        case measure => simp [intOf]; omega
      · have hlt : (a : Int) + k < s.length := by omega
        have hne : ¬ ((x.toNat : Nat) : Int) = (y.toNat : Nat) := fun h => hxy (UInt8.toNat_inj.1 (by omega))
        go_wp2_with fail
        refine wp_region_keep (Keep.refl wr) (by kernel_rfl) (by kernel_rfl) ?_
        repeat (first | go_big_quiet_step (fail) | quiet_step (fail))
        refine wpQuiet_nil ?_
        rintro w6 ⟨⟨w7, b7⟩, rfl⟩
        go_wp2
        go_ret
        refine ⟨?_, HK.out.trans b7⟩
        rw [HR.out, HC.out, HCD.out, if_neg hxy]
        rfl
    · have hge : ¬ (a : Int) + k < s.length := by omega
      have hge2 : decide ((a : Int) + k < s.length) = false := decide_eq_false hge
      have HC := Lib.hid hc
      have HK := Lib.hid hw
      clear hc hw
      go_wp2_with fail
      refine wp_region_keep (Keep.refl wr) (by kernel_rfl) (by kernel_rfl) ?_
      repeat (first | go_big_quiet_step (fail) | quiet_step (fail))
      refine wpQuiet_nil ?_
      rintro w6 ⟨⟨w7, b7⟩, rfl⟩
      go_wp2
      go_ret
      refine ⟨?_, HK.out.trans b7⟩
      rw [HR.out, HC.out, com_endr _ _ _ (by omega)]
      rfl
end Go.Proofs.YtpimecnpdpcceaaGreat

/- Proved: what lz's note answers and does to its map; plain steps of split. Condition: the map's block is known (MapZ); the text's length fits. -/
namespace Go.Proofs.YtpimecnpdpcceaaGreat
open Go.RowKit

theorem ext_mid (s : List UInt8) (a b : Nat) : (⟨s.toArray⟩ : ByteArray).extract a b = ⟨((s.drop a).take (b - a)).toArray⟩ := by
  apply ByteArray.ext
  simp [ByteArray.data_extract]
theorem cut_str (s : List UInt8) (a b : Nat) (hab : a ≤ b) (hb : b ≤ s.length) (w : World) : (Instr.sliceAt 9 (.string ⟨s.toArray⟩) (some (.int .i64 (a : Nat))) (some (.int .i64 (b : Nat))) none).run Tryz.prog w = .ok (.string ⟨((s.drop a).take (b - a)).toArray⟩) w := by
  have hlen : (⟨s.toArray⟩ : ByteArray).size = s.length := by simp [ByteArray.size]
  have h5 := run_slice_string (P := Tryz.prog) w 9 ⟨s.toArray⟩ .i64 .i64 a b (by kernel_rfl) (by omega) (by omega) (by rw [hlen]; omega)
  rw [Int.toNat_natCast, Int.toNat_natCast, ext_mid] at h5
  exact (run_sliceAt_string (P := Tryz.prog) (w := w) 9 (.string ⟨s.toArray⟩) (some (.int .i64 (a : Nat))) (some (.int .i64 (b : Nat))) none (by kernel_rfl)).trans h5
theorem cut_three (s : List UInt8) (a : Nat) (h : a + 3 ≤ s.length) (w : World) : (Instr.sliceAt 9 (.string ⟨s.toArray⟩) (some (.int .i64 (a : Nat))) (some (.int .i64 ((a : Int) + 3))) none).run Tryz.prog w = .ok (.string ⟨((s.drop a).take 3).toArray⟩) w := by
  have h5 := cut_str s a (a + 3) (by omega) h w
  rw [show a + 3 - a = 3 by omega] at h5
  exact h5

/-- What note makes of a map's texts. -/
def noteP (s : List UInt8) (a : Nat) (Pr : List UInt8 → Nat → Prop) (k : List UInt8) (v : Nat) : Prop := Pr k v ∨ (k = (s.drop a).take 3 ∧ v = a ∧ a + 3 ≤ s.length)
def NotePost (b : Nat) (s : List UInt8) (a : Nat) (Pr : List UInt8 → Nat → Prop) (w : World) (e : Ending) (w' : World) : Prop :=
  ∃ (z : Nat) (ok : Bool), e = .returned (.tuple #[.int .i64 z, .bool ok]) ∧ MapZ w' b (noteP s a Pr) ∧ Only b w w' ∧ (ok = true → a + 3 ≤ s.length ∧ Pr ((s.drop a).take 3) z)

set_option maxRecDepth 100000 in
theorem znote (b : Nat) (s : List UInt8) (a : Nat) (Pr : List UInt8 → Nat → Prop) (w : World) (h : MapZ w b Pr) (ha : a ≤ s.length) (hs : s.length ≤ 1000000000000) : Calls Tryz.prog 68 #[.map (some b), .string ⟨s.toArray⟩, .int .i64 a] w (NotePost b s a Pr w) := by
  have hlen : (⟨s.toArray⟩ : ByteArray).size = s.length := by simp [ByteArray.size]
  by_cases h3 : a + 3 ≤ s.length
  · obtain ⟨z, ok, hlook, hp⟩ := h.look ((s.drop a).take 3)
    obtain ⟨w1, hupd, hm1, ho1⟩ := h.upd ((s.drop a).take 3) a
    have hcut := cut_three s a h3
    have HM := Lib.hid (hm1.mono (Qr := noteP s a Pr) fun q v hv => by
      rcases hv with hv | ⟨h1, h2⟩
      · exact .inl hv
      · exact .inr ⟨h1, h2, h3⟩)
    have HP := Lib.hid hp
    have HO := Lib.hid ho1
    have HH := Lib.hid h
    clear hm1 hp ho1 h
    generalize hq : (s.drop a).take 3 = q at *
    have HQ := Lib.hid hq
    clear hq
    have hi : ¬ (a : Int) + 3 > s.length := by omega
    go_enter Tryz.func68, Tryz.ntmps68
    go_wp2
    go_ret2
    exact ⟨z, ok, rfl, HM.out, HO.out, fun hk => ⟨h3, by rw [HQ.out]; exact HP.out hk⟩⟩
  · have hi : (a : Int) + 3 > s.length := by omega
    have HM := Lib.hid (h.mono (Qr := noteP s a Pr) fun q v hv => .inl hv)
    clear h
    go_enter Tryz.func68, Tryz.ntmps68
    go_wp2
    go_ret2
    exact ⟨0, false, rfl, HM.out, Only.refl _ _, fun hk => by cases hk⟩
end Go.Proofs.YtpimecnpdpcceaaGreat

/- Proved: what lz's split answers: tokens that say the text, none of which takes more than nine bits a byte. Condition: the text has at most 65536 bytes. -/
namespace Go.Proofs.YtpimecnpdpcceaaGreat
open Go.RowKit

/-! ### Plainly -/
theorem com_ge : ∀ (n : Nat) (x y : List UInt8), x.take n = y.take n → n ≤ x.length → n ≤ y.length → n ≤ Dm.com x y
  | 0, _, _, _, _, _ => Nat.zero_le _
  | n + 1, [], _, _, h, _ => by simp at h
  | n + 1, _ :: _, [], _, _, h => by simp at h
  | n + 1, a :: x, b :: y, h, h1, h2 => by
    simp only [List.take_succ_cons, List.cons.injEq] at h
    have := com_ge n x y h.2 (by simpa using h1) (by simpa using h2)
    unfold Dm.com
    rw [if_pos h.1]
    omega
theorem com_get (x y : List UInt8) (j : Nat) (h : j < Dm.com x y) : x[j]? = y[j]? := by
  have := congrArg (fun l => l[j]?) (Dm.com_take x y)
  simpa [List.getElem?_take, h] using this
/-- What split knows of its tokens. -/
structure SpT (s : List UInt8) (m : Nat) (T : List Lz.Tk) : Prop where
  ok : Lz.okL m 0 T
  text : Lz.textT T = s.take m
  nine : ∀ t ∈ T, (Lz.bitsT t).length ≤ 9 * Lz.sizeT t
  few : T.length ≤ m
theorem SpT.nil (s : List UInt8) : SpT s 0 [] := ⟨rfl, by simp [Lz.textT], by simp, by simp⟩
theorem SpT.byte {s : List UInt8} {k : Nat} {T : List Lz.Tk} (h : SpT s k T) (hk : k < s.length) : SpT s (k + 1) (T ++ [⟨s[k], 0, 0⟩]) := by
  refine ⟨?_, ?_, ?_, ?_⟩
  · exact Lz.okL_snoc (n := k + 1) (t := ⟨s[k], 0, 0⟩) T 0 h.ok ⟨by omega, .inl ⟨rfl, rfl⟩⟩ (by omega)
  · rw [Lz.textT_snoc, h.text, Lz.stepT, if_pos rfl, List.take_add_one, List.getElem?_eq_getElem hk]
    rfl
  · intro t ht
    rcases List.mem_append.1 ht with ht | ht
    · exact h.nine t ht
    · simp at ht
      subst ht
      rw [Lz.byte_nine rfl]
      exact Nat.le_refl _
  · have := h.few
    simp
    omega
def copyT (s : List UInt8) (z k : Nat) : Lz.Tk := ⟨0, k - z, Dm.com (s.drop z) (s.drop k)⟩
theorem copy_long {s : List UInt8} {z k : Nat} (hk : k + 3 ≤ s.length) (hz : z < k) (he : (s.drop k).take 3 = (s.drop z).take 3) : 3 ≤ (copyT s z k).len ∧ k + (copyT s z k).len ≤ s.length := by
  have h1 := com_ge 3 (s.drop z) (s.drop k) he.symm (by rw [List.length_drop]; omega) (by rw [List.length_drop]; omega)
  have h2 := (Dm.com_le (s.drop z) (s.drop k)).2
  rw [List.length_drop] at h2
  exact ⟨h1, by show k + Dm.com (s.drop z) (s.drop k) ≤ s.length; omega⟩
theorem SpT.copy {s : List UInt8} {z k : Nat} {T : List Lz.Tk} (h : SpT s k T) (hk : k + 3 ≤ s.length) (hz : z < k) (he : (s.drop k).take 3 = (s.drop z).take 3) (hp : (Lz.bitsT (copyT s z k)).length < 9 * (copyT s z k).len) : SpT s (k + (copyT s z k).len) (T ++ [copyT s z k]) := by
  obtain ⟨h3, hl⟩ := copy_long hk hz he
  have hsz : Lz.sizeT (copyT s z k) = (copyT s z k).len := by unfold Lz.sizeT; omega
  refine ⟨?_, ?_, ?_, ?_⟩
  · have := Lz.okL_snoc (n := s.length) (t := copyT s z k) T 0 h.ok ⟨by omega, .inr ⟨rfl, by show 1 ≤ k - z; omega, by show k - z ≤ k; omega, h3, hl⟩⟩ (by omega)
    rwa [hsz] at this
  · rw [Lz.textT_snoc, h.text, Lz.stepT, if_neg (by omega)]
    refine Lz.copy_ok (s := s) (from' := z) _ k hz hl ?_
    intro j hj
    have := com_get (s.drop z) (s.drop k) j hj
    simpa using this
  · intro t ht
    rcases List.mem_append.1 ht with ht | ht
    · exact h.nine t ht
    · simp at ht
      subst ht
      rw [hsz]
      omega
  · have := h.few
    simp
    omega

/-! ### Tokens and lists of one, made -/
theorem build_copy (x y : Nat) (w : World) : (Instr.build 119 #[(1, .int .i64 x), (2, .int .i64 y)]).run Tryz.prog w = .ok (.agg (tc ⟨0, x, y⟩)) w := by kernel_rfl
theorem build_byte (c : UInt8) (w : World) : (Instr.build 119 #[(0, .int .u8 (c.toNat : Nat))]).run Tryz.prog w = .ok (.agg (tc ⟨c, 0, 0⟩)) w := by kernel_rfl
theorem build_zero (w : World) : (Instr.build 119 #[]).run Tryz.prog w = .ok (.agg (tc zeroT)) w := by kernel_rfl
theorem slice_tok (t : Lz.Tk) (w : World) : (Instr.buildSlice 82 1 #[(0, .agg (tc t))]).run Tryz.prog w = .ok (.slice (some ⟨w.heap.size, 0, none⟩) 1 1) (w.alloc (.cells (tc t) 119)) := by
  obtain ⟨b, x, y⟩ := t
  kernel_rfl
theorem Row.tok (w : World) (t : Lz.Tk) : Row tl 119 (w.alloc (.cells (tc t) 119)) (.slice (some ⟨w.heap.size, 0, none⟩) 1 1) [t] := by
  have hb : (w.alloc (.cells (tc t) 119)).heap[w.heap.size]? = some (.cells (tc t) 119 (0, 0)) := heap_alloc_last w _
  refine ⟨.inr ⟨w.heap.size, 0, 1, rfl, by simp, by unfold maxLen; omega, by simp, fun j u hj => ?_⟩, fun g hg => ?_⟩
  · refine cell_obj hb ?_
    rw [flat_one] at hj
    simpa [tc] using hj
  · simp [Value.ownBlock] at hg
    subst hg
    exact ⟨_, _, hb⟩
theorem Own.only {α : Type} {t k : Nat} {enc : α → List Value} {B b : Nat} {w w' : World} {v : Value} {l : List α} (h : Own t k enc B w v l) (q : Only b w w') (hb : b < B) : Own t k enc B w' v l := by
  refine World.ownsRow.kept (row := some b) h ⟨q.os, q.tape, q.output, q.size, fun i hi hne => q.block i hi (fun e => hne (by rw [e]))⟩ ?_
  refine .inr fun e => ?_
  have := (World.ownsRow.lt h b e).1
  omega
end Go.Proofs.YtpimecnpdpcceaaGreat
