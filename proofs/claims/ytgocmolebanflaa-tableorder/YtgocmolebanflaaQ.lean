/- Proved: what table's Len, Copy, Get, All and Between answer. Condition: the table lies in memory, or is none. -/
import Derived.Test.YtgocmolebanflaaO
namespace Go.Proofs.Ytgocmolebanflaa
open Go.RowKit

theorem info34b : (Try.prog.info? 34).map (fun i => (i.zero, i.size)) = some (some (.agg (rc zeroR)), 20) := by kernel_rfl
theorem rc_one (r : Rt) : ∀ v ∈ (rc r).toList, v.oneCell' = true := by
  intro v hv
  exact rl_one r v (by simpa [rc] using hv)
theorem RAt.store {w : World} {b : Nat} {z : Rt} (h : RAt w b z) (r : Rt) : (storeCells ⟨b, 0, none⟩ (rc r).toList).run Try.prog w = .ok () (w.setRow b (rc r)) := by
  have hsc := run_storeCells_from (P := Try.prog) b 34 (rc r).toList 0 (rc z) w h (by rw [rc_size z]; simp [rc_size r]) (rc_one r)
  rw [List.take_zero, List.nil_append, Array.toArray_toList] at hsc
  exact hsc
theorem RAt.put {w : World} {b : Nat} {z : Rt} (h : RAt w b z) (r : Rt) : RAt (w.setRow b (rc r)) b r := block_row h _

set_option maxRecDepth 100000 in
theorem len_at (t : Value) (l : List Rt) (w : World) (h : Tp w t l) : Calls Try.prog 20 #[t] w fun e w' => e = .returned (.int .i64 l.length) ∧ Keep w w' := by
  obtain ⟨v, hv, hc⟩ := rows_of h
  obtain ⟨a, cap, rfl, _, _⟩ := hv.cells.form
  have H := Lib.hid hc
  clear h hv hc
  go_enter Try.func20, Try.ntmps20
  go_wp2_with fail
  refine (H.out w (Keep.refl _)).mono ?_
  rintro e w1 ⟨rfl, b1⟩
  go_wp2
  go_ret
  exact ⟨rfl, b1⟩

theorem copy_nil : GivesK Try.prog 29 #[.pointer none] (.pointer none) := by
  intro w
  go_enter Try.func29, Try.ntmps29
  go_wp2
  go_ret
  exact ⟨rfl, Keep.refl w⟩

set_option maxRecDepth 100000 in
theorem copy (b : Nat) (l : List Rt) (w : World) (h : Tb w b l) : Calls Try.prog 29 #[.pointer (some ⟨b, 0, none⟩)] w fun e w' => ∃ c, e = .returned (.pointer (some ⟨c, 0, none⟩)) ∧ w.heap.size ≤ c ∧ Tb w' c l ∧ Keep w w' := by
  obtain ⟨⟨v, h1, h2⟩, h3, h4⟩ := h
  obtain ⟨a, cap, e, _, _⟩ := h2.cells.form
  obtain ⟨n, hn⟩ : ∃ n, l.length = n := ⟨_, rfl⟩
  rw [hn] at e
  clear hn
  subst e
  have hc : w.cell? ⟨b, 0, none⟩ = some (.slice a n cap) := cell_obj h1 rfl
  have H2 := Lib.hid h2
  have H3 := Lib.hid h3
  have H4 := Lib.hid h4
  clear h1 h2 h3 h4
  go_enter Try.func29, Try.ntmps29
  go_wp2
  go_ret
  exact ⟨_, rfl, Nat.le_refl _, ⟨⟨_, heap_alloc_last w _, H2.out.keep ((Keep.refl w).alloc _)⟩, H3.out, H4.out⟩, (Keep.refl w).alloc _⟩

set_option maxRecDepth 100000 in
set_option maxHeartbeats 1000000 in
theorem get (t : Value) (l : List Rt) (p : Px) (hp : L16 p) (w : World) (h : Tp w t l) : Calls Try.prog 18 #[t, .agg (pc p)] w fun e w' => e = .returned (.tuple #[.agg (rc (getS l p)), .bool (hasP l p)]) ∧ Keep w w' := by
  obtain ⟨hz, hi⟩ := zero_of_info info34b
  have hA := (one_at w p hp).1
  obtain ⟨n, hn⟩ : ∃ n, n = 18 := ⟨18, rfl⟩
  have hsz : ∀ w, (Go.sizeOf 25).run Try.prog w = .ok n w := fun w => by rw [hn]; exact Try.sizeOf25 w
  have hn0 : ¬ n = 0 := by omega
  obtain ⟨n2, hn2⟩ : ∃ n, n = 20 := ⟨20, rfl⟩
  have hsz2 : ∀ w, (Go.sizeOf 34).run Try.prog w = .ok n2 w := fun w => by rw [hn2]; exact Try.sizeOf34 w
  have hS : Keep w ((w.alloc (.cells (pc p) 25)).alloc (.cells (rc zeroR) 34)) := ((Keep.refl w).alloc _).alloc _
  have h1 := (hA.mono ((Same.refl _).alloc (.cells (rc zeroR) 34))).whole hn
  have hB : RAt ((w.alloc (.cells (pc p) 25)).alloc (.cells (rc zeroR) 34)) (w.heap.size + 1) zeroR := by
    have := RAt.new (w.alloc (.cells (pc p) 25)) zeroR
    simpa using this
  have HP := Lib.hid (place t l p hp _ (h.keep hS))
  have HB := Lib.hid hB
  have HS := Lib.hid hS
  have HT := Lib.hid (h.keep hS)
  have HN := Lib.hid hn
  have HN2 := Lib.hid hn2
  have hzs : (rc zeroR).size = n2 := by rw [hn2]; exact rc_size _
  clear hn hn2 hA hS hB hi
  unfold getS
  by_cases hh : hasP l p = true
  · rw [if_pos hh]
    rw [hh] at HP ⊢
    obtain ⟨x, hx, hxp⟩ := (has_rank h.sorted hp).1 hh
    have hlt := (List.getElem?_eq_some_iff.1 hx).1
    rw [show l.getD (rank l p) zeroR = x by rw [List.getD_eq_getElem?_getD, hx]; rfl]
    have HX := Lib.hid hx
    clear hxp hx
    rcases h with ⟨rfl, rfl⟩ | ⟨b, rfl, hb⟩
    · simp at hlt
    clear hb hh
    obtain ⟨k, hk⟩ : ∃ k, rank l p = k := ⟨_, rfl⟩
    rw [hk] at HX HP hlt
    clear hk
    obtain ⟨X, hX⟩ : ∃ X, rc x = X := ⟨_, rfl⟩
    have HXE := Lib.hid hX
    rw [hX]
    clear hX
    go_enter Try.func18, Try.ntmps18
    go_wp2_with fail
    refine HP.out.mono ?_
    rintro e w2 ⟨rfl, b2⟩
    rcases HT.out with ⟨h0, _⟩ | ⟨b', hbe, ⟨⟨v, hv, hrow⟩, hs, hf⟩⟩
    · cases h0
    cases hbe
    obtain ⟨g, o, cap, e, _, _, _⟩ := hrow.cells.ptr k hlt
    subst e
    have hc : w2.cell? ⟨b, 0, none⟩ = some (.slice (some ⟨g, o, none⟩) l.length cap) := cell_obj (b2.obj hv) rfl
    have hld := (hrow.cells.keep b2).rt HN2.out k x HX.out
    have HB2 := Lib.hid (HB.out.keep b2)
    have hst := HB2.out.store x
    have hl3 := (HB2.out.put x).whole HN2.out
    have HK := Lib.hid ((HS.out.trans b2).setRow (w.heap.size + 1) (rc x) (by omega))
    have hkl : k < 1000000 := by omega
    have hzx : (rc x).size = n2 := by rw [HN2.out]; exact rc_size _
    clear h1 hv hrow b2 HB HT HP
    rw [HXE.out] at hld hst hl3 HK hzx
    go_wp2
    refine bodyPost_ret (v := .tuple #[.agg X, .bool true]) ?_ rfl ⟨rfl, HK.out⟩
    simp [results, Try.results18, go_sem, hsz2, hl3]
  · rw [if_neg hh]
    rw [show hasP l p = false by simpa using hh] at HP ⊢
    have HBN := Lib.hid build_no
    clear hh h
    generalize rank l p = k at *
    go_enter Try.func18, Try.ntmps18
    go_wp2_with fail
    refine HP.out.mono ?_
    rintro e w2 ⟨rfl, b2⟩
    have HB2 := Lib.hid (HB.out.keep b2)
    have hst := HB2.out.store zeroR
    have hl3 := (HB2.out.put zeroR).whole HN2.out
    have HK := Lib.hid ((HS.out.trans b2).setRow (w.heap.size + 1) (rc zeroR) (by omega))
    clear h1 b2 HB HT HP hz
    go_wp2_with (refine at_build [] rfl _ (HBN.out _) ?_)
    refine bodyPost_ret (v := .tuple #[.agg (rc zeroR), .bool false]) ?_ rfl ⟨rfl, HK.out⟩
    simp [results, Try.results18, go_sem, hsz2, hl3]
end Go.Proofs.Ytgocmolebanflaa
