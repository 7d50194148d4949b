/- Proved: what digest's More answers; digests copied. Condition: the list lies in memory. -/
import Derived.Test.YtfikdeobejhblaaDf
namespace Go.Proofs.Ytfikdeobejhblaa
open Go.RowKit

set_option maxRecDepth 100000 in
theorem cloneD (v : Value) (l : List Dg) (w : World) (h : Cells dl w v l) (hl : l.length ≤ 1000000) : Calls Try.prog 62 #[v] w fun e w' => ∃ v', e = .returned v' ∧ Own 68 2 dl w.heap.size w' v' l ∧ Keep w w' := by
  have h0 := h
  rcases h with ⟨rfl, rfl⟩ | ⟨g, o, cap, rfl, h1, h2, h3, h4⟩
  · have he : ∀ w, (binOp .eql 42 (.slice none 0 0) (.slice none 0 0)).run Try.prog w = .ok (.bool true) w := fun w => Lib.run_eql_slice_nil w 42 68 none 0 0 0 0 (by kernel_rfl)
    clear h0
    go_enter Try.func62, Try.ntmps62
    go_wp2
    go_ret
    exact ⟨_, rfl, Own.nil _ _, Keep.refl _⟩
  · have he : ∀ w, (binOp .eql 42 (.slice (some ⟨g, o, none⟩) l.length cap) (.slice none 0 0)).run Try.prog w = .ok (.bool false) w := fun w => Lib.run_eql_slice_nil w 42 68 (some ⟨g, o, none⟩) l.length cap 0 0 (by kernel_rfl)
    have HK := Lib.hid ((Keep.refl w).alloc (.cells #[] 68))
    have HC := Lib.hid (h0.keep HK.out)
    have HO := Lib.hid (Own.made (t := 68) (k := 2) (enc := dl) w.heap.size w (Nat.le_refl _))
    have hsz : w.heap.size ≤ (w.alloc (.cells #[] 68)).heap.size := HK.out.size
    clear h0 h4
    go_enter Try.func62, Try.ntmps62
    go_wp2_with (at_builtin; refine wp_app elD rfl _ _ rfl w.heap.size _ _ [] l rfl rfl HO.out HC.out ?q1 ?q2 ?q3 ?_)
    case q1 => simp; omega
    case q2 => simp; omega
    case q3 => exact hsz
    intro v' w' k1 k2
    go_wp2
    go_ret
    exact ⟨_, rfl, k1, HO.out.grown HK.out (Nat.le_refl _) k2⟩

/-- A list in memory; of an empty one nothing is asked but its form. -/
structure Lg {α : Type} (enc : α → List Value) (w : World) (v : Value) (l : List α) : Prop where
  form : ∃ a cap, v = .slice a l.length cap
  cells : l ≠ [] → Cells enc w v l
theorem Lg.of {α : Type} {enc : α → List Value} {w : World} {v : Value} {l : List α} (h : Cells enc w v l) : Lg enc w v l := ⟨by obtain ⟨a, cap, h1, _, _⟩ := h.form; exact ⟨a, cap, h1⟩, fun _ => h⟩
theorem Lg.keep {α : Type} {enc : α → List Value} {w w' : World} {v : Value} {l : List α} (h : Lg enc w v l) (k : Keep w w') : Lg enc w' v l := ⟨h.form, fun hn => (h.cells hn).keep k⟩
theorem Lg.at {α : Type} {enc : α → List Value} {w : World} {v : Value} {l : List α} (h : Lg enc w v l) (j : Nat) (hj : j < l.length) : Cells enc w v l := h.cells (by intro e; rw [e] at hj; simp at hj)

theorem Own.down {α : Type} {t k : Nat} {enc : α → List Value} {B B' : Nat} {w : World} {v : Value} {l : List α} (h : Own t k enc B w v l) (hb : B' ≤ B) : Own t k enc B' w v l := by
  refine ⟨h.1, ?_⟩
  rcases h.2 with h1 | ⟨g, cap, cur, h1, h2, h3⟩
  · exact .inl h1
  · exact .inr ⟨g, cap, cur, h1, Nat.le_trans hb h2, h3⟩
/-- More answers the very list where it isn't of 17, or where Kind is none: else a list of its own. -/
def MorePost (w : World) (v : Value) (L : List Dg) (R : List Dg) (e : Ending) (w' : World) : Prop := ∃ v', e = .returned v' ∧ Keep w w' ∧ ((v' = v ∧ R = L) ∨ ∃ g cap, v' = .slice (some ⟨g, 0, none⟩) L.length cap ∧ Own 68 2 dl w.heap.size w' v' R)
set_option maxRecDepth 100000 in
set_option maxHeartbeats 1000000 in
theorem dmore (v : Value) (L : List Dg) (i : Ic) (was : Rt) (w : World) (h : Lg dl w v L) (hl : L.length ≤ 1000000) : Calls Try.prog 27 #[v, .agg (ic i), .agg (rc was)] w (MorePost w v L (moreD L i.kind (bkt i.route.to) (markOf i.route) (markOf was))) := by
  obtain ⟨a, cap, rfl⟩ := h.form
  have hA := IAt.new w i
  have hS : Keep w ((w.alloc (.cells (ic i) 52)).alloc (.cells (rc was) 37)) := ((Keep.refl w).alloc _).alloc _
  by_cases h17 : L.length = 17
  · have hW : RAt ((w.alloc (.cells (ic i) 52)).alloc (.cells (rc was) 37)) (w.heap.size + 1) was := by
      have := RAt.new (w.alloc (.cells (ic i) 52)) was
      simpa using this
    have hI : IAt ((w.alloc (.cells (ic i) 52)).alloc (.cells (rc was) 37)) w.heap.size i := hA.keep ((Keep.refl _).alloc _)
    have hC := (h.at 0 (by omega)).keep hS
    have HCL := Lib.hid (cloneD (.slice a L.length cap) L _ hC hl)
    obtain ⟨n, hn⟩ : ∃ n, n = 20 := ⟨20, rfl⟩
    have hsz : ∀ w, (Go.sizeOf 37).run Try.prog w = .ok n w := fun w => by rw [hn]; exact Try.sizeOf37 w
    have hn0 : ¬ n = 0 := by omega
    obtain ⟨n2, hn2⟩ : ∃ n, n = 18 := ⟨18, rfl⟩
    have hsz2 : ∀ w, (Go.sizeOf 34).run Try.prog w = .ok n2 w := fun w => by rw [hn2]; exact Try.sizeOf34 w
    have hn20 : ¬ n2 = 0 := by omega
    have HF := Lib.hid (fun (w' : World) (hi : IAt w' w.heap.size i) (hw : RAt w' (w.heap.size + 1) was) => (show w'.cell? ⟨w.heap.size, 0, none⟩ = some (.int .i64 i.kind) ∧ (loadCellsFrom ⟨w.heap.size, 1, none⟩ 0 n2 #[]).run Try.prog w' = .ok (pc i.route.to) w' ∧ (loadCellsFrom ⟨w.heap.size, 1, none⟩ 0 n #[]).run Try.prog w' = .ok (rc i.route) w' ∧ (loadCellsFrom ⟨w.heap.size + 1, 0, none⟩ 0 n #[]).run Try.prog w' = .ok (rc was) w' from ⟨hi.kind, hi.to hn2, hi.route hn, hw.whole hn⟩))
    have HI := Lib.hid hI
    have HW := Lib.hid hW
    have HS := Lib.hid hS
    have hszw : ((w.alloc (.cells (ic i) 52)).alloc (.cells (rc was) 37)).heap.size = w.heap.size + 1 + 1 := by simp
    have HZ := Lib.hid hszw
    have HBK := Lib.hid (dbucket i.route.to i.route.ok).keep
    have hbk := bkt_lt i.route.to
    have HCO := Lib.hid (fun (B : Nat) (wc : World) (g cap : Nat) (l : List Dg) (hl : l.length = 17) (h : Own 68 2 dl B wc (.slice (some ⟨g, 0, none⟩) 17 cap) l) (r : Rt) => come B wc g 17 cap l hl h (bkt i.route.to) _ (show l[bkt i.route.to]? = some (l.getD (bkt i.route.to) zeroD) by rw [List.getD_eq_getElem?_getD, List.getElem?_eq_getElem (by omega)]; rfl) r)
    have HLE := Lib.hid (fun (B : Nat) (wc : World) (g cap : Nat) (l : List Dg) (hl : l.length = 17) (h : Own 68 2 dl B wc (.slice (some ⟨g, 0, none⟩) 17 cap) l) (r : Rt) => leave B wc g 17 cap l hl h (bkt i.route.to) _ (show l[bkt i.route.to]? = some (l.getD (bkt i.route.to) zeroD) by rw [List.getD_eq_getElem?_getD, List.getElem?_eq_getElem (by omega)]; rfl) r)
    have HM := Lib.hid (show moreD L i.kind (bkt i.route.to) (markOf i.route) (markOf was) = if i.kind = 1 then addD L (bkt i.route.to) (markOf i.route) else if i.kind = 2 then addD (subD L (bkt i.route.to) (markOf was)) (bkt i.route.to) (markOf i.route) else if i.kind = 3 then subD L (bkt i.route.to) (markOf was) else L by unfold moreD; rw [if_neg (by omega)])
    have HL := Lib.hid h17
    clear h hA hS hW hI hC hn hn2 hszw
    rw [h17] at HCL ⊢
    clear h17
    obtain ⟨kd, ro⟩ := i
    simp only at HF HI HS HZ HBK hbk HCO HLE HM HCL HW ⊢
    generalize moreD L kd (bkt ro.to) (markOf ro) (markOf was) = R at *
    generalize ic ⟨kd, ro⟩ = I at *
    have hbI : ((bkt ro.to : Nat) : Int) < 17 := by omega
    generalize bkt ro.to = bb at *
    obtain ⟨WS, hWS⟩ : ∃ X, rc was = X := ⟨_, rfl⟩
    have HWS := Lib.hid hWS
    rw [hWS] at HCL HS HZ HI HW ⊢
    simp only [hWS] at HF
    obtain ⟨RO, hRO⟩ : ∃ X, rc ro = X := ⟨_, rfl⟩
    have HRO := Lib.hid hRO
    simp only [hRO] at HF
    clear hWS hRO
    by_cases h1 : kd = 1
    · have hk1 : (kd == 1) = true := by simp [h1]
      have HE := Lib.hid (show R = addD L bb (markOf ro) by rw [HM.out, if_pos h1])
      clear HM HLE h1
      go_enter Try.func27, Try.ntmps27
      go_wp2_with fail
      generalize (w.alloc (.cells I 52)).alloc (.cells WS 37) = w0 at *
      refine HCL.out.mono ?_
      rintro e w1 ⟨v1, rfl, o1, k1⟩
      rcases o1.2 with ⟨_, h0⟩ | ⟨g, c1, cur, rfl, hBg, _⟩
      · exfalso; have := HL.out; omega
      have o1' : Own 68 2 dl w0.heap.size w1 (.slice (some ⟨g, 0, none⟩) 17 c1) L := by
        have := o1
        rw [HL.out] at this
        exact this
      rw [HL.out]
      obtain ⟨f1, f2, f3, f4⟩ := HF.out w1 (HI.out.keep k1) (HW.out.keep k1)
      have HO1 := Lib.hid o1'
      have HK1 := Lib.hid k1
      have HBG := Lib.hid (show w.heap.size + 1 + 1 ≤ g from by rw [← HZ.out]; exact hBg)
      clear o1 o1' k1 hBg HCL
      go_wp2_with fail
      refine (HBK.out w1).mono ?_
      rintro e w2 ⟨rfl, k2⟩
      obtain ⟨g1, g2, g3, g4⟩ := HF.out w2 (HI.out.keep (HK1.out.trans k2)) (HW.out.keep (HK1.out.trans k2))
      have HO2 := Lib.hid (HO1.out.keep k2)
      have HK2 := Lib.hid (HS.out.trans (HK1.out.trans k2))
      have HKI := Lib.hid (HK1.out.trans k2)
      clear f1 f2 f3 f4 k2 HO1
      go_wp2_with fail
      refine (HRO.out ▸ HCO.out _ w2 g c1 L HL.out HO2.out ro).mono ?_
      rintro e w3 ⟨rfl, o3, n3⟩
      have HFI := Lib.hid (show MorePost w (.slice a 17 cap) L R (.returned (.slice (some ⟨g, 0, none⟩) 17 c1)) w3 from ⟨_, rfl, Only.made HK2.out n3 (by have := HBG.out; omega), .inr ⟨g, c1, by rw [HL.out], by
        rw [HE.out]
        exact Own.down o3 (by have := HZ.out; omega)⟩⟩)
      clear o3 n3 g1 g2 g3 g4
      go_wp2
      go_ret
      exact HFI.out
    · have hk1 : (kd == 1) = false := by simpa using h1
      by_cases h2 : kd = 2
      · have hk2 : (kd == 2) = true := by simp [h2]
        have HE := Lib.hid (show R = addD (subD L bb (markOf was)) bb (markOf ro) by rw [HM.out, if_neg h1, if_pos h2])
        clear HM h1 h2
        go_enter Try.func27, Try.ntmps27
        go_wp2_with fail
        generalize (w.alloc (.cells I 52)).alloc (.cells WS 37) = w0 at *
        refine HCL.out.mono ?_
        rintro e w1 ⟨v1, rfl, o1, k1⟩
        rcases o1.2 with ⟨_, h0⟩ | ⟨g, c1, cur, rfl, hBg, _⟩
        · exfalso; have := HL.out; omega
        have o1' : Own 68 2 dl w0.heap.size w1 (.slice (some ⟨g, 0, none⟩) 17 c1) L := by
          have := o1
          rw [HL.out] at this
          exact this
        rw [HL.out]
        obtain ⟨f1, f2, f3, f4⟩ := HF.out w1 (HI.out.keep k1) (HW.out.keep k1)
        have HO1 := Lib.hid o1'
        have HK1 := Lib.hid k1
        have HBG := Lib.hid (show w.heap.size + 1 + 1 ≤ g from by rw [← HZ.out]; exact hBg)
        clear o1 o1' k1 hBg HCL
        go_wp2_with fail
        refine (HBK.out w1).mono ?_
        rintro e w2 ⟨rfl, k2⟩
        obtain ⟨g1, g2, g3, g4⟩ := HF.out w2 (HI.out.keep (HK1.out.trans k2)) (HW.out.keep (HK1.out.trans k2))
        have HO2 := Lib.hid (HO1.out.keep k2)
        have HK2 := Lib.hid (HS.out.trans (HK1.out.trans k2))
        have HKI := Lib.hid (HK1.out.trans k2)
        clear f1 f2 f3 f4 k2 HO1
        go_wp2_with fail
        refine (HWS.out ▸ HLE.out _ w2 g c1 L HL.out HO2.out was).mono ?_
        rintro e w3 ⟨rfl, o3, n3⟩
        have hi3 : IAt w3 w.heap.size ⟨kd, ro⟩ := n3.obj (HI.out.keep HKI.out) (by have := HBG.out; omega)
        have hw3 : RAt w3 (w.heap.size + 1) was := n3.obj (HW.out.keep HKI.out) (by have := HBG.out; omega)
        obtain ⟨q1, q2, q3, q4⟩ := HF.out w3 hi3 hw3
        have HO3 := Lib.hid o3
        have HN3 := Lib.hid n3
        have HL3 := Lib.hid (show (subD L bb (markOf was)).length = 17 by rw [subD_len, HL.out])
        clear o3 n3 g1 g2 g3 g4 hi3 hw3
        go_wp2_with fail
        refine (HRO.out ▸ HCO.out _ w3 g c1 (subD L bb (markOf was)) HL3.out HO3.out ro).mono ?_
        rintro e w4 ⟨rfl, o4, n4⟩
        have HFI := Lib.hid (show MorePost w (.slice a 17 cap) L R (.returned (.slice (some ⟨g, 0, none⟩) 17 c1)) w4 from ⟨_, rfl, Only.made HK2.out (HN3.out.trans n4) (by have := HBG.out; omega), .inr ⟨g, c1, by rw [HL.out], by
          rw [HE.out]
          exact Own.down o4 (by have := HZ.out; omega)⟩⟩)
        clear o4 n4 q1 q2 q3 q4
        go_wp2
        go_ret
        exact HFI.out
      · have hk2 : (kd == 2) = false := by simpa using h2
        by_cases h3 : kd = 3
        · have hk3 : (kd == 3) = true := by simp [h3]
          have HE := Lib.hid (show R = subD L bb (markOf was) by rw [HM.out, if_neg h1, if_neg h2, if_pos h3])
          clear HM h1 h2 h3 HCO
          go_enter Try.func27, Try.ntmps27
          go_wp2_with fail
          generalize (w.alloc (.cells I 52)).alloc (.cells WS 37) = w0 at *
          refine HCL.out.mono ?_
          rintro e w1 ⟨v1, rfl, o1, k1⟩
          rcases o1.2 with ⟨_, h0⟩ | ⟨g, c1, cur, rfl, hBg, _⟩
          · exfalso; have := HL.out; omega
          have o1' : Own 68 2 dl w0.heap.size w1 (.slice (some ⟨g, 0, none⟩) 17 c1) L := by
            have := o1
            rw [HL.out] at this
            exact this
          rw [HL.out]
          obtain ⟨f1, f2, f3, f4⟩ := HF.out w1 (HI.out.keep k1) (HW.out.keep k1)
          have HO1 := Lib.hid o1'
          have HK1 := Lib.hid k1
          have HBG := Lib.hid (show w.heap.size + 1 + 1 ≤ g from by rw [← HZ.out]; exact hBg)
          clear o1 o1' k1 hBg HCL
          go_wp2_with fail
          refine (HBK.out w1).mono ?_
          rintro e w2 ⟨rfl, k2⟩
          obtain ⟨g1, g2, g3, g4⟩ := HF.out w2 (HI.out.keep (HK1.out.trans k2)) (HW.out.keep (HK1.out.trans k2))
          have HO2 := Lib.hid (HO1.out.keep k2)
          have HK2 := Lib.hid (HS.out.trans (HK1.out.trans k2))
          have HKI := Lib.hid (HK1.out.trans k2)
          clear f1 f2 f3 f4 k2 HO1
          go_wp2_with fail
          refine (HWS.out ▸ HLE.out _ w2 g c1 L HL.out HO2.out was).mono ?_
          rintro e w3 ⟨rfl, o3, n3⟩
          have HFI := Lib.hid (show MorePost w (.slice a 17 cap) L R (.returned (.slice (some ⟨g, 0, none⟩) 17 c1)) w3 from ⟨_, rfl, Only.made HK2.out n3 (by have := HBG.out; omega), .inr ⟨g, c1, by rw [HL.out], by
            rw [HE.out]
            exact Own.down o3 (by have := HZ.out; omega)⟩⟩)
          clear o3 n3 g1 g2 g3 g4
          go_wp2
          go_ret
          exact HFI.out
        · have hk3 : (kd == 3) = false := by simpa using h3
          have HE := Lib.hid (show R = L by rw [HM.out, if_neg h1, if_neg h2, if_neg h3])
          clear HM h1 h2 h3 HCO HLE
          go_enter Try.func27, Try.ntmps27
          go_wp2_with fail
          generalize (w.alloc (.cells I 52)).alloc (.cells WS 37) = w0 at *
          refine HCL.out.mono ?_
          rintro e w1 ⟨v1, rfl, o1, k1⟩
          rcases o1.2 with ⟨_, h0⟩ | ⟨g, c1, cur, rfl, hBg, _⟩
          · exfalso; have := HL.out; omega
          have o1' : Own 68 2 dl w0.heap.size w1 (.slice (some ⟨g, 0, none⟩) 17 c1) L := by
            have := o1
            rw [HL.out] at this
            exact this
          rw [HL.out]
          obtain ⟨f1, f2, f3, f4⟩ := HF.out w1 (HI.out.keep k1) (HW.out.keep k1)
          have HO1 := Lib.hid o1'
          have HK1 := Lib.hid k1
          have HBG := Lib.hid (show w.heap.size + 1 + 1 ≤ g from by rw [← HZ.out]; exact hBg)
          clear o1 o1' k1 hBg HCL
          go_wp2_with fail
          refine (HBK.out w1).mono ?_
          rintro e w2 ⟨rfl, k2⟩
          obtain ⟨g1, g2, g3, g4⟩ := HF.out w2 (HI.out.keep (HK1.out.trans k2)) (HW.out.keep (HK1.out.trans k2))
          have HO2 := Lib.hid (HO1.out.keep k2)
          have HK2 := Lib.hid (HS.out.trans (HK1.out.trans k2))
          have HKI := Lib.hid (HK1.out.trans k2)
          clear f1 f2 f3 f4 k2 HO1
          go_wp2
          go_ret
          exact ⟨_, rfl, HK2.out, .inl ⟨rfl, HE.out⟩⟩
  · have hne : ((L.length : Int) != 17) = true := by simp; omega
    have HE := Lib.hid (show moreD L i.kind (bkt i.route.to) (markOf i.route) (markOf was) = L by unfold moreD; rw [if_pos h17])
    have HS := Lib.hid hS
    clear h hA hS h17
    generalize moreD L i.kind (bkt i.route.to) (markOf i.route) (markOf was) = R at *
    generalize ic i = I at *
    generalize rc was = Q at *
    obtain ⟨N, hN⟩ : ∃ N, L.length = N := ⟨_, rfl⟩
    rw [hN] at hne hl ⊢
    go_enter Try.func27, Try.ntmps27
    go_wp2
    go_ret
    exact ⟨_, rfl, HS.out, .inl ⟨rfl, HE.out⟩⟩
end Go.Proofs.Ytfikdeobejhblaa
