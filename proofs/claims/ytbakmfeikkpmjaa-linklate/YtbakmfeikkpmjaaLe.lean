/- Proved: what Arrive and All answer, and what they leave. Condition: lists are short enough for memory. -/
import Derived.Test.YtbakmfeikkpmjaaLd
namespace Go.Proofs.Ytbakmfeikkpmjaa
open Go.RowKit

section
variable {w : World} {b B : Nat} {W T L : Texts} {K : List Nat} {v vw vl : Value} {x : List UInt8}
/-- The first one of a list is cleared, and cut off. -/
theorem Qs.cut (h : Qs B w v (x :: L)) : ∃ g o cap o' c', v = .slice (some ⟨g, o, none⟩) (L.length + 1) cap ∧ L.length + 1 ≤ maxLen ∧ w.cell? ⟨g, o, none⟩ = some (.string ⟨x.toArray⟩) ∧ w.frozen? ⟨g, o, none⟩ = false ∧
    (∀ w', (Instr.sliceAt 33 (.slice (some ⟨g, o, none⟩) (L.length + 1) cap) (some (.int .i64 1)) none none).run Try.prog w' = .ok (.slice (some ⟨g, o', none⟩) L.length c') w') ∧ Qs B (w.setCell ⟨g, o, none⟩ (.string ⟨#[]⟩)) (.slice (some ⟨g, o', none⟩) L.length c') L := by
  have he : Try.prog.elem 33 = 9 := by kernel_rfl
  rcases h with ⟨_, h⟩ | ⟨g, o, cap, rfl, h1, h2, h3, h4, h5, h6⟩
  · cases h
  · rw [List.length_cons] at h3
    have hm : cap ≤ 9223372036854775807 := by unfold maxLen at h4; omega
    have hx : w.cell? ⟨g, o, none⟩ = some (.string ⟨x.toArray⟩) := by simpa using h5 0 _ (by rw [flat_cons]; rfl)
    refine ⟨g, o, cap, if cap = 1 then o else o + 1, cap - 1, by rw [List.length_cons], by omega, hx, by simpa using (h6 0 (by omega)).2, fun w' => ?_, .inr ⟨g, _, _, rfl, h1, by simpa [World.setCell] using h2, by omega, by omega, fun j u hj => ?_, fun j hj => ?_⟩⟩
    · by_cases e : cap = 1
      · subst e
        have e2 : L.length = 0 := by omega
        rw [if_pos rfl, e2]
        go_simp
      · rw [if_neg e]
        go_simp
        intro hh
        omega
    · have hj2 := (List.getElem?_eq_some_iff.1 hj).1
      rw [flat_len se se_len] at hj2
      rw [if_neg (by omega)]
      rw [World.cell?_setCell_other _ _ _ _ (by intro e; injection e with _ e _; omega)]
      have := h5 (j + 1) u (by rw [flat_cons]; simpa [se] using hj)
      rwa [show o + (j + 1) = o + 1 + j by omega] at this
    · rw [if_neg (by omega), World.frozen?_setCell]
      have := h6 (j + 1) (by omega)
      rw [show o + (j + 1) = o + 1 + j by omega] at this
      refine ⟨?_, this.2⟩
      rw [World.cell?_setCell_other _ _ _ _ (by intro e; injection e with _ e _; omega)]
      exact this.1

set_option maxRecDepth 100000 in
set_option maxHeartbeats 1000000 in
theorem first_none (i c : Nat) (a : Option Addr) (hc : w.cell? ⟨b, i, none⟩ = some (.slice a 0 c)) : Calls Try.prog 16 #[.pointer (some ⟨b, i, none⟩)] w fun e w' => e = .returned (.tuple #[.string ⟨#[]⟩, .bool false]) ∧ w' = w := by
  go_enter Try.func16, Try.ntmps16
  go_wp2
  go_returns
  exact ⟨rfl, rfl⟩
set_option maxRecDepth 100000 in
set_option maxHeartbeats 1000000 in
theorem first_way (h : LAt w b vw vl (x :: W) T) : Calls Try.prog 16 #[.pointer (some ⟨b, 0, none⟩)] w fun e w' => e = .returned (.tuple #[.string ⟨x.toArray⟩, .bool true]) ∧ ∃ vw', LAt w' b vw' vl W T ∧ Sb w (blk b vw vl) w' (blk b vw' vl) := by
  have hlow := h.way.low
  obtain ⟨g, o, cap, o', c', hv, hm, c2, f2, hcut, hq⟩ := h.way.cut
  have c0 := h.cway
  have f0 := h.free 0
  rw [hv] at c0
  obtain ⟨hg1, hg2⟩ := hlow g (by rw [hv]; rfl)
  have hgb : g ≠ b := by omega
  have hbg : b ≠ g := by omega
  have hm2 : W.length + 1 ≤ 9223372036854775807 := by unfold maxLen at hm; omega
  have c3 : (w.setCell ⟨g, o, none⟩ (.string ⟨#[]⟩)).cell? ⟨b, 0, none⟩ = some (.slice (some ⟨g, o, none⟩) (W.length + 1) cap) := by
    rw [World.cell?_setCell_other _ _ _ _ (by intro e; injection e with e _ _; omega)]; exact c0
  have o1 := Only.setCell g o w (.string ⟨#[]⟩)
  have t1 : Turn (blk b vw vl) w (w.setCell ⟨g, o, none⟩ (.string ⟨#[]⟩)) := Turn.only o1 (in_w (by rw [hv]; rfl))
  have hb1 := o1.obj h.block hbg
  have o2 := Only.setCell b 0 (w.setCell ⟨g, o, none⟩ (.string ⟨#[]⟩)) (.slice (some ⟨g, o', none⟩) W.length c')
  have hE : LAt ((w.setCell ⟨g, o, none⟩ (.string ⟨#[]⟩)).setCell ⟨b, 0, none⟩ (.slice (some ⟨g, o', none⟩) W.length c')) b (.slice (some ⟨g, o', none⟩) W.length c') vl W T :=
    ⟨by have := block_set hb1 0 (.slice (some ⟨g, o', none⟩) W.length c'); simpa using this, hq.only o2 (by omega), (h.late.block o1.size fun k hk => o1.block k (h.late.low k hk).2 (fun e => h.ap g (by rw [hv]; rfl) (by rw [← e]; exact hk))).only o2 (by omega), fun k hk => by
      simp [Value.ownBlock] at hk
      subst hk
      exact h.ap _ (by rw [hv]; rfl)⟩
  have hM : Sb w (blk b vw vl) ((w.setCell ⟨g, o, none⟩ (.string ⟨#[]⟩)).setCell ⟨b, 0, none⟩ (.slice (some ⟨g, o', none⟩) W.length c')) (blk b (.slice (some ⟨g, o', none⟩) W.length c') vl) :=
    ⟨t1.trans (Turn.only o2 in_b), fun k hk => by
      rcases blk_cases hk with rfl | h1 | h1
      · exact in_b
      · exact in_w (by rw [hv]; exact h1)
      · exact in_l h1⟩
  have HE := Lib.hid hE
  have HM := Lib.hid hM
  clear h hlow hv hm hq o1 t1 hb1 o2 hE hM
  generalize W.length = N at *
  go_enter Try.func16, Try.ntmps16
  go_wp2
  go_returns
  exact ⟨rfl, _, HE.out, HM.out⟩
set_option maxRecDepth 100000 in
set_option maxHeartbeats 1000000 in
theorem first_late (h : LAt w b vw vl W (x :: T)) : Calls Try.prog 16 #[.pointer (some ⟨b, 1, none⟩)] w fun e w' => e = .returned (.tuple #[.string ⟨x.toArray⟩, .bool true]) ∧ ∃ vl', LAt w' b vw vl' W T ∧ Sb w (blk b vw vl) w' (blk b vw vl') := by
  have hlow := h.late.low
  obtain ⟨g, o, cap, o', c', hv, hm, c2, f2, hcut, hq⟩ := h.late.cut
  have c0 := h.clate
  have f0 := h.free 1
  rw [hv] at c0
  obtain ⟨hg1, hg2⟩ := hlow g (by rw [hv]; rfl)
  have hgb : g ≠ b := by omega
  have hbg : b ≠ g := by omega
  have hm2 : T.length + 1 ≤ 9223372036854775807 := by unfold maxLen at hm; omega
  have c3 : (w.setCell ⟨g, o, none⟩ (.string ⟨#[]⟩)).cell? ⟨b, 1, none⟩ = some (.slice (some ⟨g, o, none⟩) (T.length + 1) cap) := by
    rw [World.cell?_setCell_other _ _ _ _ (by intro e; injection e with e _ _; omega)]; exact c0
  have o1 := Only.setCell g o w (.string ⟨#[]⟩)
  have t1 : Turn (blk b vw vl) w (w.setCell ⟨g, o, none⟩ (.string ⟨#[]⟩)) := Turn.only o1 (in_l (by rw [hv]; rfl))
  have hb1 := o1.obj h.block hbg
  have o2 := Only.setCell b 1 (w.setCell ⟨g, o, none⟩ (.string ⟨#[]⟩)) (.slice (some ⟨g, o', none⟩) T.length c')
  have hE : LAt ((w.setCell ⟨g, o, none⟩ (.string ⟨#[]⟩)).setCell ⟨b, 1, none⟩ (.slice (some ⟨g, o', none⟩) T.length c')) b vw (.slice (some ⟨g, o', none⟩) T.length c') W T :=
    ⟨by have := block_set hb1 1 (.slice (some ⟨g, o', none⟩) T.length c'); simpa using this, (h.way.block o1.size fun k hk => o1.block k (h.way.low k hk).2 (fun e => h.ap k hk (by rw [e, hv]; rfl))).only o2 (by omega), hq.only o2 (by omega), fun k hk hk2 => by
      simp [Value.ownBlock] at hk2
      subst hk2
      exact h.ap _ hk (by rw [hv]; rfl)⟩
  have hM : Sb w (blk b vw vl) ((w.setCell ⟨g, o, none⟩ (.string ⟨#[]⟩)).setCell ⟨b, 1, none⟩ (.slice (some ⟨g, o', none⟩) T.length c')) (blk b vw (.slice (some ⟨g, o', none⟩) T.length c')) :=
    ⟨t1.trans (Turn.only o2 in_b), fun k hk => by
      rcases blk_cases hk with rfl | h1 | h1
      · exact in_b
      · exact in_w h1
      · exact in_l (by rw [hv]; exact h1)⟩
  have HE := Lib.hid hE
  have HM := Lib.hid hM
  clear h hlow hv hm hq o1 t1 hb1 o2 hE hM
  generalize T.length = N at *
  go_enter Try.func16, Try.ntmps16
  go_wp2
  go_returns
  exact ⟨rfl, _, HE.out, HM.out⟩

/-! ### Arrive -/
set_option maxRecDepth 100000 in
theorem arrive_nil (w : World) : Calls Try.prog 9 #[.pointer none] w fun e w' => e = .returned (.tuple #[.string ⟨#[]⟩, .bool false]) ∧ w' = w := by
  go_enter Try.func9, Try.ntmps9
  go_wp2
  go_returns
  exact ⟨rfl, rfl⟩
set_option maxRecDepth 100000 in
theorem arr_way (h : Lk w K b (x :: W) T) : Calls Try.prog 9 #[.pointer (some ⟨b, 0, none⟩)] w fun e w' => e = .returned (.tuple #[.string ⟨x.toArray⟩, .bool true]) ∧ ∃ K', Lk w' K' b W T ∧ Sb w K w' K' := by
  obtain ⟨vw, vl, rfl, h⟩ := h
  have HF := Lib.hid (first_way h)
  have c0 := h.cway
  obtain ⟨a, c, hv, _, _⟩ := h.way.cells.form
  rw [hv, List.length_cons] at c0
  clear h hv
  generalize W.length = N at *
  go_enter Try.func9, Try.ntmps9
  go_wp2_with fail
  refine HF.out.mono ?_
  rintro e w' ⟨rfl, vw', h1, h2⟩
  have HE := Lib.hid (show ∃ K', Lk w' K' b W T ∧ Sb w (blk b vw vl) w' K' from ⟨_, ⟨_, _, rfl, h1⟩, h2⟩)
  clear h1 h2 HF
  go_wp2
  go_returns
  exact ⟨rfl, HE.out⟩
set_option maxRecDepth 100000 in
theorem arr_late (h : Lk w K b [] (x :: T)) : Calls Try.prog 9 #[.pointer (some ⟨b, 0, none⟩)] w fun e w' => e = .returned (.tuple #[.string ⟨x.toArray⟩, .bool true]) ∧ ∃ K', Lk w' K' b [] T ∧ Sb w K w' K' := by
  obtain ⟨vw, vl, rfl, h⟩ := h
  have HF := Lib.hid (first_late h)
  have c0 := h.cway
  obtain ⟨a, c, hv, _, _⟩ := h.way.cells.form
  rw [hv, List.length_nil] at c0
  clear h hv
  go_enter Try.func9, Try.ntmps9
  go_wp2_with fail
  refine HF.out.mono ?_
  rintro e w' ⟨rfl, vl', h1, h2⟩
  have HE := Lib.hid (show ∃ K', Lk w' K' b [] T ∧ Sb w (blk b vw vl) w' K' from ⟨_, ⟨_, _, rfl, h1⟩, h2⟩)
  clear h1 h2 HF
  go_wp2
  go_returns
  exact ⟨rfl, HE.out⟩
set_option maxRecDepth 100000 in
theorem arr_none (h : Lk w K b [] []) : Calls Try.prog 9 #[.pointer (some ⟨b, 0, none⟩)] w fun e w' => e = .returned (.tuple #[.string ⟨#[]⟩, .bool false]) ∧ w' = w := by
  obtain ⟨vw, vl, rfl, h⟩ := h
  have c0 := h.cway
  have c1 := h.clate
  obtain ⟨a, c, hv, _, _⟩ := h.way.cells.form
  obtain ⟨a2, c2, hv2, _, _⟩ := h.late.cells.form
  rw [hv, List.length_nil] at c0
  rw [hv2, List.length_nil] at c1
  have HF := Lib.hid (first_none 1 c2 a2 c1)
  clear h hv
  go_enter Try.func9, Try.ntmps9
  go_wp2_with fail
  refine HF.out.mono ?_
  rintro e w' ⟨rfl, rfl⟩
  go_wp2
  go_returns
  exact ⟨rfl, rfl⟩
/-- What comes first, and what is left. -/
theorem larrive {R : Texts} (h : Lk w K b W T) (e : W ++ T = x :: R) : Calls Try.prog 9 #[.pointer (some ⟨b, 0, none⟩)] w fun e w' => e = .returned (.tuple #[.string ⟨x.toArray⟩, .bool true]) ∧ ∃ K' W' T', W' ++ T' = R ∧ Lk w' K' b W' T' ∧ Sb w K w' K' := by
  cases W with
  | nil =>
    obtain rfl : T = x :: R := by simpa using e
    exact (arr_late h).mono fun e w' ⟨e1, K', h1, h2⟩ => ⟨e1, K', [], R, rfl, h1, h2⟩
  | cons y W =>
    simp only [List.cons_append, List.cons.injEq] at e
    obtain ⟨rfl, rfl⟩ := e
    exact (arr_way h).mono fun e w' ⟨e1, K', h1, h2⟩ => ⟨e1, K', W, T, rfl, h1, h2⟩
end
end Go.Proofs.Ytbakmfeikkpmjaa
