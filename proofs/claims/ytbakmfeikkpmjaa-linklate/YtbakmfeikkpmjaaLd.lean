/- Proved: what Send makes of a link. Condition: lists and texts are short enough for memory. -/
import Derived.Test.YtbakmfeikkpmjaaLc
import Derived.Deep.RegionLaw
namespace Go.Proofs.Ytbakmfeikkpmjaa
open Go.RowKit

theorem infoT : (Try.prog.info? 29).map (fun i => (i.zero, i.size, i.bytes)) = some (some (.agg (fc ⟨0, 0, 0⟩)), 3, 24) := by kernel_rfl
set_option maxRecDepth 100000 in
theorem send_nil (s : List UInt8) (f : Ft) (w : World) : Calls Try.prog 8 #[.pointer none, .string ⟨s.toArray⟩, .agg (fc f)] w fun e w' => e = .returned (.tuple #[]) ∧ Keep w w' := by
  have HK := Lib.hid ((Keep.refl w).alloc (.cells (fc f) 29))
  unfold fc at *
  go_enter Try.func8, Try.ntmps8
  go_wp2
  go_returns
  exact ⟨rfl, HK.out⟩
/-- One text, in new memory. -/
theorem one_new (w : World) (g : Nat) (hg : w.heap.size = g) (s : List UInt8) : TexS (w.alloc (.cells #[.string ⟨s.toArray⟩] 9)) (.slice (some ⟨g, 0, none⟩) 1 1) [s] := by
  subst hg
  exact one_cells w ⟨s.toArray⟩ s rfl
section
variable {w : World} {b : Nat} {W T : Texts} {K : List Nat} {vw vl : Value}
set_option maxRecDepth 100000 in
theorem send_drop (s : List UInt8) (f : Ft) (hk : f.kind = 1) (h : LAt w b vw vl W T) : Calls Try.prog 8 #[.pointer (some ⟨b, 0, none⟩), .string ⟨s.toArray⟩, .agg (fc f)] w fun e w' =>
    e = .returned (.tuple #[]) ∧ LAt w' b vw vl W T ∧ Keep w w' := by
  have k1 := (Keep.refl w).alloc (.cells (fc f) 29)
  have HK := Lib.hid k1
  have HL := Lib.hid (h.keep k1)
  unfold fc at *
  rw [hk] at *
  clear h k1
  go_enter Try.func8, Try.ntmps8
  go_wp2
  go_returns
  exact ⟨rfl, HL.out, HK.out⟩
set_option maxRecDepth 100000 in
set_option maxHeartbeats 1000000 in
theorem send_late (s : List UInt8) (f : Ft) (hk : f.kind = 3) (h : LAt w b vw vl W T) (hl : T.length ≤ 900000) : Calls Try.prog 8 #[.pointer (some ⟨b, 0, none⟩), .string ⟨s.toArray⟩, .agg (fc f)] w fun e w' =>
    e = .returned (.tuple #[]) ∧ ∃ vl', LAt w' b vw vl' W (T ++ [s]) ∧ Turn (blk b vw vl) w w' ∧ More w (blk b vw vl) (blk b vw vl') := by
  have k1 := (Keep.refl w).alloc (.cells (fc f) 29)
  have h1 := h.keep k1
  have k2 := (Keep.refl (w.alloc (.cells (fc f) 29))).alloc (.cells #[.string ⟨s.toArray⟩] 9)
  have HL2 := Lib.hid (h1.keep k2)
  have HK := Lib.hid (k1.trans k2)
  have HO := Lib.hid (one_new (w.alloc (.cells (fc f) 29)) (w.heap.size + 1) (by simp) s)
  have c1 := h1.clate
  have hlt : b + 1 ≤ ((w.alloc (.cells (fc f) 29)).alloc (.cells #[.string ⟨s.toArray⟩] 9)).heap.size := HL2.out.lt
  unfold fc at *
  rw [hk] at *
  clear h h1 k1 k2
  go_enter Try.func8, Try.ntmps8
  go_wp2_with (at_builtin; refine wp_appQ rfl _ _ rfl (b + 1) _ _ T [s] rfl rfl HL2.out.late HO.out ?q1 hlt _ rfl ?_)
  case q1 => first | omega | (simp; omega)
  intro v' w2 hq hg ha
  have hb2 := HL2.out.at_grown hg fun g e => by have := (HL2.out.late.low g e).1; omega
  have cc : w2.cell? ⟨b, 1, none⟩ = some vl := cell_obj hb2 rfl
  have ff : w2.frozen? ⟨b, 1, none⟩ = false := by simp [World.frozen?, hb2]
  have HE := Lib.hid (HL2.out.setLate hq hg ha (by simp))
  obtain ⟨x7, y7, z7, _, _⟩ := hq.cells.form
  rw [List.length_append, List.length_singleton] at z7
  subst z7
  clear hq hg ha hb2 HO c1 hlt
  go_wp2
  go_returns
  exact ⟨rfl, _, HE.out.1, (Turn.keep _ HK.out).trans HE.out.2.1, HE.out.2.2.back HK.out.size⟩
set_option maxRecDepth 100000 in
set_option maxHeartbeats 2000000 in
theorem send_else (s : List UInt8) (f : Ft) (hk1 : f.kind ≠ 1) (hk2 : f.kind ≠ 2) (hk3 : f.kind ≠ 3) (hs : f.kind = 4 ∨ f.kind = 5 → s.length ≤ 100000) (hb : f.bits < 4294967296) (h : LAt w b vw vl W T) (hl : W.length + T.length ≤ 900000) : Calls Try.prog 8 #[.pointer (some ⟨b, 0, none⟩), .string ⟨s.toArray⟩, .agg (fc f)] w fun e w' =>
    e = .returned (.tuple #[]) ∧ ∃ vw', LAt w' b vw' (.slice none 0 0) (W ++ [hurtP s f] ++ T) [] ∧ Turn (blk b vw vl) w w' ∧ More w (blk b vw vl) (blk b vw' (.slice none 0 0)) := by
  obtain ⟨n, hn⟩ : ∃ n, n = 3 := ⟨3, rfl⟩
  have hsz : ∀ w, (Go.sizeOf 29).run Try.prog w = .ok n w := fun w => by rw [hn]; exact Try.sizeOf29 w
  have hn0 : ¬ n = 0 := by omega
  have k1 := (Keep.refl w).alloc (.cells (fc f) 29)
  have h1 := h.keep k1
  have HL1 := Lib.hid h1
  have HK := Lib.hid k1
  have HH := Lib.hid (fun w => hurt_at s f w hs hb)
  have c0 := h1.cway
  have c4 : (w.alloc (.cells (fc f) 29)).cell? ⟨w.heap.size, 0, none⟩ = some (.int .i64 f.kind) := cell_obj (heap_alloc_last w _) rfl
  have hld : (loadCellsFrom ⟨w.heap.size, 0, none⟩ 0 n #[]).run Try.prog (w.alloc (.cells (fc f) 29)).drew = .ok (fc f) (w.alloc (.cells (fc f) 29)).drew :=
    load_block (P := Try.prog) (w := (w.alloc (.cells (fc f) 29)).drew) n (show (fc f).size = n by rw [hn]; rfl) (heap_alloc_last w (.cells (fc f) 29))
  clear h h1 k1 hn
  generalize fc f = C at *
  go_enter Try.func8, Try.ntmps8
  go_wp2_with fail
  generalize hy : w.alloc (.cells C 29) = y at *
  generalize hkb : w.heap.size = kb at *
  clear c4
  have HTK := Lib.hid (Turn.keep (blk b vw vl) HK.out)
  have HTM := Lib.hid (More.same w (blk b vw vl))
  obtain ⟨N9, hN9⟩ : ∃ N, (W ++ [hurtP s f] ++ T).length = N := ⟨_, rfl⟩
  have hN9 := Lib.hid hN9
  go_region_law ((first | (refine step_call (by rfl) (f := 15) (args := #[.string ⟨s.toArray⟩, .agg C]) (by go_simp) (HH.out _) ?_; intro w4 b4; have k4 : Keep y w4 := Keep.trans (Keep.refl y).drew b4; have c4 : w4.cell? ⟨b, 0, none⟩ = some vw := (HL1.out.keep k4).cway; have c5 : ∀ o, (w4.alloc o).cell? ⟨b, 0, none⟩ = some vw := fun o => (HL1.out.keep (k4.alloc o)).cway) | (refine step_appQ (by rfl) _ _ (by rfl) (b + 1) vw _ W [hurtP s f] (by rfl) (by rfl) (HL1.out.keep (k4.alloc _)).way (one_new w4 w4.heap.size rfl (hurtP s f)) (by simp; omega) (HL1.out.keep (k4.alloc _)).lt _ rfl ?_; intro v7 w7 o7 g7 a7; have s7 := HL1.out.seen (k4.alloc _) g7; obtain ⟨t7, u7⟩ := s7; obtain ⟨x7, y7, z7, _, _⟩ := o7.cells.form; have e7 := z7.trans (show _ = Value.slice x7 (List.length W + 1) y7 by simp); clear z7; subst e7)))
  all_goals
    have HE := Lib.hid (HL1.out.grew (k4.alloc _) o7 g7 a7 (Nat.le_refl _))
    clear k4 c4 c5 b4 o7 g7 a7 t7 u7 c0 hld
    generalize w7.setCell ⟨b, 0, none⟩ (.slice x7 (List.length W + 1) y7) = w8 at *
    generalize hv7 : Value.slice x7 (List.length W + 1) y7 = v7 at *
    have HL8 := Lib.hid HE.out.1
    have HX8 := Lib.hid HE.out.2
    have c0 := HL8.out.cway
    have c1 := HL8.out.clate
    clear HE hv7 HL1
    go_wp2_with fail
    go_region_law ((refine step_appQ (by rfl) _ _ (by rfl) (b + 1) v7 vl (W ++ [hurtP s f]) T (by rfl) (by rfl) (HL8.out.keep (Keep.refl w8).drew).way (HL8.out.keep (Keep.refl w8).drew).late.cells (by simp; omega) (HL8.out.keep (Keep.refl w8).drew).lt _ rfl ?_; intro v9 w9 o9 g9 a9; have s9 := HL8.out.seen (Keep.refl w8).drew g9; obtain ⟨t9, u9⟩ := s9; obtain ⟨x9, y9, z9, _, _⟩ := o9.cells.form; have e9 := z9.trans (show _ = Value.slice x9 N9 y9 by rw [hN9.out]); clear z9; subst e9))
    all_goals
      have HE9 := HL8.out.grew (Keep.refl w8).drew o9 g9 a9 (Nat.le_refl _)
      clear o9 g9 a9 t9 u9 c0 c1
      generalize w9.setCell ⟨b, 0, none⟩ (.slice x9 N9 y9) = w10 at *
      generalize Value.slice x9 N9 y9 = v9 at *
      have HL10 := Lib.hid HE9.1
      have HX10 := Lib.hid (((Mv.mk HTK.out HTM.out).then ⟨HX8.out.1, HX8.out.2⟩).then ⟨HE9.2.1, HE9.2.2⟩)
      have c1 := HL10.out.clate
      have f1 := HL10.out.free 1
      have HN := Lib.hid HL10.out.noLate
      clear HE9 HL8 HX8
      go_wp2
      go_returns
      refine ⟨rfl, v9, HN.out.1, ?_⟩
      have hm := HX10.out.then ⟨HN.out.2.1, HN.out.2.2⟩
      exact ⟨hm.turn, hm.more⟩
set_option maxRecDepth 100000 in
set_option maxHeartbeats 2000000 in
theorem send_two (s : List UInt8) (f : Ft) (hk2 : f.kind = 2) (hs : f.kind = 4 ∨ f.kind = 5 → s.length ≤ 100000) (hb : f.bits < 4294967296) (h : LAt w b vw vl W T) (hl : W.length + T.length ≤ 900000) : Calls Try.prog 8 #[.pointer (some ⟨b, 0, none⟩), .string ⟨s.toArray⟩, .agg (fc f)] w fun e w' =>
    e = .returned (.tuple #[]) ∧ ∃ vw', LAt w' b vw' (.slice none 0 0) (W ++ [s] ++ [hurtP s f] ++ T) [] ∧ Turn (blk b vw vl) w w' ∧ More w (blk b vw vl) (blk b vw' (.slice none 0 0)) := by
  obtain ⟨n, hn⟩ : ∃ n, n = 3 := ⟨3, rfl⟩
  have hsz : ∀ w, (Go.sizeOf 29).run Try.prog w = .ok n w := fun w => by rw [hn]; exact Try.sizeOf29 w
  have hn0 : ¬ n = 0 := by omega
  have k1 := (Keep.refl w).alloc (.cells (fc f) 29)
  have h1 := h.keep k1
  have k2 := (Keep.refl (w.alloc (.cells (fc f) 29))).alloc (.cells #[.string ⟨s.toArray⟩] 9)
  have HL2 := Lib.hid (h1.keep k2)
  have HK := Lib.hid (k1.trans k2)
  have HO := Lib.hid (one_new (w.alloc (.cells (fc f) 29)) (w.heap.size + 1) (by simp) s)
  have HH := Lib.hid (fun w => hurt_at s f w hs hb)
  have c0 := h1.cway
  have c4 : (w.alloc (.cells (fc f) 29)).cell? ⟨w.heap.size, 0, none⟩ = some (.int .i64 f.kind) := cell_obj (heap_alloc_last w _) rfl
  have HB := Lib.hid (k2.obj (heap_alloc_last w (.cells (fc f) 29)))
  have HLow := Lib.hid h.low
  have HSz := Lib.hid (show (fc f).size = n by rw [hn]; rfl)
  have hlt : b + 1 ≤ ((w.alloc (.cells (fc f) 29)).alloc (.cells #[.string ⟨s.toArray⟩] 9)).heap.size := HL2.out.lt
  rw [hk2] at c4
  clear h h1 k1 k2 hn
  generalize fc f = C at *
  go_enter Try.func8, Try.ntmps8
  go_wp2_with (first | (at_builtin; refine wp_appQ rfl _ _ rfl (b + 1) _ _ W [s] rfl rfl HL2.out.way HO.out ?q1 hlt _ rfl ?_) | fail)
  case q1 => first | omega | (simp; omega)
  intro v' w2 hq hg ha
  have hb2 := HL2.out.at_grown hg fun g e => by have := (HL2.out.way.low g e).1; omega
  have cc : w2.cell? ⟨b, 0, none⟩ = some vw := cell_obj hb2 rfl
  have ff : w2.frozen? ⟨b, 0, none⟩ = false := by simp [World.frozen?, hb2]
  have HE := HL2.out.setWay hq hg ha (by simp)
  obtain ⟨x7, y7, z7, _, _⟩ := hq.cells.form
  rw [List.length_append, List.length_singleton] at z7
  subst z7
  have HT7 := (Mv.keep (blk b vw vl) HK.out).then ⟨HE.2.1, HE.2.2⟩
  have hkey := HE.2.1.obj HB.out (fun hi => by have := HLow.out _ hi; omega)
  have HTK := Lib.hid HT7.turn
  have HTM := Lib.hid HT7.more
  have HLa := Lib.hid HE.1
  have HKY := Lib.hid hkey
  clear hq hg ha hb2 HO c0 c4 hlt HE HT7 HL2 HK HB HLow hkey
  go_wp2_with fail
  clear cc ff
  generalize w2.setCell ⟨b, 0, none⟩ (.slice x7 (List.length W + 1) y7) = y at *
  generalize Value.slice x7 (List.length W + 1) y7 = vy at *
  generalize w.heap.size = kb at *
  have HL1 := HLa
  have c0 := HL1.out.cway
  have hld : (loadCellsFrom ⟨kb, 0, none⟩ 0 n #[]).run Try.prog y.drew = .ok C y.drew := load_block (P := Try.prog) (w := y.drew) n HSz.out HKY.out
  have hl1 : (W ++ [s]).length + T.length ≤ 900001 := by simp; omega
  clear HLa HKY HSz hl
  generalize hW1 : W ++ [s] = W1 at *
  have HW1 := Lib.hid hW1
  clear hW1
  obtain ⟨N9, hN9⟩ : ∃ N, (W1 ++ [hurtP s f] ++ T).length = N := ⟨_, rfl⟩
  have hN9 := Lib.hid hN9
  go_region_law ((first | (refine step_call (by rfl) (f := 15) (args := #[.string ⟨s.toArray⟩, .agg C]) (by go_simp) (HH.out _) ?_; intro w4 b4; have k4 : Keep y w4 := Keep.trans (Keep.refl y).drew b4; have c4 : w4.cell? ⟨b, 0, none⟩ = some vy := (HL1.out.keep k4).cway; have c5 : ∀ o, (w4.alloc o).cell? ⟨b, 0, none⟩ = some vy := fun o => (HL1.out.keep (k4.alloc o)).cway) | (refine step_appQ (by rfl) _ _ (by rfl) (b + 1) vy _ W1 [hurtP s f] (by rfl) (by rfl) (HL1.out.keep (k4.alloc _)).way (one_new w4 w4.heap.size rfl (hurtP s f)) (by simp; omega) (HL1.out.keep (k4.alloc _)).lt _ rfl ?_; intro v7 w7 o7 g7 a7; have s7 := HL1.out.seen (k4.alloc _) g7; obtain ⟨t7, u7⟩ := s7; obtain ⟨x7, y7, z7, _, _⟩ := o7.cells.form; have e7 := z7.trans (show _ = Value.slice x7 (List.length W1 + 1) y7 by simp); clear z7; subst e7)))
  all_goals
    have HE := Lib.hid (HL1.out.grew (k4.alloc _) o7 g7 a7 (Nat.le_refl _))
    clear k4 c4 c5 b4 o7 g7 a7 t7 u7 c0 hld
    generalize w7.setCell ⟨b, 0, none⟩ (.slice x7 (List.length W1 + 1) y7) = w8 at *
    generalize hv7 : Value.slice x7 (List.length W1 + 1) y7 = v7 at *
    have HL8 := Lib.hid HE.out.1
    have HX8 := Lib.hid HE.out.2
    have c0 := HL8.out.cway
    have c1 := HL8.out.clate
    clear HE hv7 HL1
    go_wp2_with fail
    go_region_law ((refine step_appQ (by rfl) _ _ (by rfl) (b + 1) v7 vl (W1 ++ [hurtP s f]) T (by rfl) (by rfl) (HL8.out.keep (Keep.refl w8).drew).way (HL8.out.keep (Keep.refl w8).drew).late.cells (by simp; omega) (HL8.out.keep (Keep.refl w8).drew).lt _ rfl ?_; intro v9 w9 o9 g9 a9; have s9 := HL8.out.seen (Keep.refl w8).drew g9; obtain ⟨t9, u9⟩ := s9; obtain ⟨x9, y9, z9, _, _⟩ := o9.cells.form; have e9 := z9.trans (show _ = Value.slice x9 N9 y9 by rw [hN9.out]); clear z9; subst e9))
    all_goals
      have HE9 := HL8.out.grew (Keep.refl w8).drew o9 g9 a9 (Nat.le_refl _)
      clear o9 g9 a9 t9 u9 c0 c1
      generalize w9.setCell ⟨b, 0, none⟩ (.slice x9 N9 y9) = w10 at *
      generalize Value.slice x9 N9 y9 = v9 at *
      have HL10 := Lib.hid HE9.1
      have HX10 := Lib.hid (((Mv.mk HTK.out HTM.out).then ⟨HX8.out.1, HX8.out.2⟩).then ⟨HE9.2.1, HE9.2.2⟩)
      have c1 := HL10.out.clate
      have f1 := HL10.out.free 1
      have HN := Lib.hid HL10.out.noLate
      clear HE9 HL8 HX8
      go_wp2
      go_returns
      refine ⟨rfl, v9, (by rw [HW1.out]; exact HN.out.1), ?_⟩
      have hm := HX10.out.then ⟨HN.out.2.1, HN.out.2.2⟩
      exact ⟨hm.turn, hm.more⟩

/-- What is on the way behind a Send. -/
def sendP (W T : Texts) (s : List UInt8) (f : Ft) : Texts × Texts :=
  if f.kind = 1 then (W, T) else if f.kind = 3 then (W, T ++ [s]) else if f.kind = 2 then (W ++ [s] ++ [hurtP s f] ++ T, []) else (W ++ [hurtP s f] ++ T, [])
theorem lsend (s : List UInt8) (f : Ft) (hs : f.kind = 4 ∨ f.kind = 5 → s.length ≤ 100000) (hb : f.bits < 4294967296) (h : Lk w K b W T) (hl : W.length + T.length ≤ 900000) : Calls Try.prog 8 #[.pointer (some ⟨b, 0, none⟩), .string ⟨s.toArray⟩, .agg (fc f)] w fun e w' =>
    e = .returned (.tuple #[]) ∧ ∃ K', Lk w' K' b (sendP W T s f).1 (sendP W T s f).2 ∧ Mv w K w' K' := by
  obtain ⟨vw, vl, rfl, h⟩ := h
  unfold sendP
  by_cases h1 : f.kind = 1
  · rw [if_pos h1]
    exact (send_drop s f h1 h).mono fun e w' ⟨e1, e2, e3⟩ => ⟨e1, _, ⟨_, _, rfl, e2⟩, Mv.keep _ e3⟩
  · rw [if_neg h1]
    by_cases h3 : f.kind = 3
    · rw [if_pos h3]
      exact (send_late s f h3 h (by omega)).mono fun e w' ⟨e1, vl', e2, e3, e4⟩ => ⟨e1, _, ⟨_, _, rfl, e2⟩, e3, e4⟩
    · rw [if_neg h3]
      by_cases h2 : f.kind = 2
      · rw [if_pos h2]
        exact (send_two s f h2 hs hb h hl).mono fun e w' ⟨e1, vw', e2, e3, e4⟩ => ⟨e1, _, ⟨_, _, rfl, e2⟩, e3, e4⟩
      · rw [if_neg h2]
        exact (send_else s f h1 h2 h3 hs hb h hl).mono fun e w' ⟨e1, vw', e2, e3, e4⟩ => ⟨e1, _, ⟨_, _, rfl, e2⟩, e3, e4⟩
end
end Go.Proofs.Ytbakmfeikkpmjaa
