/- Proved: changes in memory; what incr's right, allRight and Fold answer. Condition: lists are short enough for memory; the table lies in memory, or is none. -/
import Derived.Test.YtgkgpdlakamgiaaGreatIm
namespace Go.Proofs.YtgkgpdlakamgiaaGreat
open Go.RowKit

theorem info43b : (Tryz.prog.info? 59).map (fun i => (i.zero, i.size)) = some (some (.agg (ic zeroI)), 21) := by kernel_rfl
theorem ic_one (i : Ic) : ∀ v ∈ (ic i).toList, v.oneCell' = true := by
  intro v hv
  exact il_one i v (by simpa [ic] using hv)
theorem IAt.store {w : World} {b : Nat} {z : Ic} (h : IAt w b z) (i : Ic) : (storeCells ⟨b, 0, none⟩ (ic i).toList).run Tryz.prog w = .ok () (w.setRow b (ic i)) := by
  have hsc := run_storeCells_from (P := Tryz.prog) b 59 (ic i).toList 0 (ic z) w h (by rw [ic_size z]; simp [ic_size i]) (ic_one i)
  rw [List.take_zero, List.nil_append, Array.toArray_toList] at hsc
  exact hsc
theorem IAt.put {w : World} {b : Nat} {z : Ic} (h : IAt w b z) (i : Ic) : IAt (w.setRow b (ic i)) b i := block_row h _
theorem IAt.metric {w : World} {b : Nat} {i : Ic} (h : IAt w b i) : w.cell? ⟨b, 19, none⟩ = some (.int .i64 i.route.metric) := cell_obj h (by
  have := rl_metric i.route
  simpa [ic, il] using this)
theorem IAt.seq {w : World} {b : Nat} {i : Ic} (h : IAt w b i) : w.cell? ⟨b, 20, none⟩ = some (.int .u32 i.route.seq) := cell_obj h (by
  have := rl_seq i.route
  simpa [ic, il] using this)
/-- A list of changes as it comes in. -/
structure Ls (w : World) (v : Value) (l : List Ic) : Prop where
  form : ∃ a cap, v = .slice a l.length cap
  cells : l ≠ [] → Cells il w v l
theorem Ls.of {w : World} {v : Value} {l : List Ic} (h : Cells il w v l) : Ls w v l := by
  obtain ⟨a, cap, e, _, _⟩ := h.form
  exact ⟨⟨a, cap, e⟩, fun _ => h⟩
theorem Ls.keep {w w' : World} {v : Value} {l : List Ic} (h : Ls w v l) (k : Keep w w') : Ls w' v l := ⟨h.form, fun e => (h.cells e).keep k⟩
theorem Ls.at {w : World} {v : Value} {l : List Ic} (h : Ls w v l) (j : Nat) (hj : j < l.length) : Cells il w v l := h.cells (fun e => by rw [e] at hj; simp at hj)
theorem Ls.nil (w : World) : Ls w (.slice none 0 0) [] := Ls.of (Cells.nil w)

set_option maxRecDepth 100000 in
theorem iright (i : Ic) : GivesK Tryz.prog 58 #[.agg (ic i)] (.bool (decide (rightI i))) := by
  intro w
  have hA := IAt.new w i
  have hS : Keep w (w.alloc (.cells (ic i) 59)) := (Keep.refl w).alloc _
  obtain ⟨n, hn⟩ : ∃ n, n = 18 := ⟨18, rfl⟩
  have hsz : ∀ w, (Go.sizeOf 54).run Tryz.prog w = .ok n w := fun w => by rw [hn]; exact Tryz.sizeOf54 w
  have hn0 : ¬ n = 0 := by omega
  obtain ⟨n2, hn2⟩ : ∃ n, n = 20 := ⟨20, rfl⟩
  have hsz2 : ∀ w, (Go.sizeOf 57).run Tryz.prog w = .ok n2 w := fun w => by rw [hn2]; exact Tryz.sizeOf57 w
  have hn20 : ¬ n2 = 0 := by omega
  have hk := hA.kind
  have HA := Lib.hid hA
  have HS := Lib.hid hS
  have HN := Lib.hid hn
  have HN2 := Lib.hid hn2
  have HRT := Lib.hid (rightT i.route).keep
  have HRP := Lib.hid (right i.route.to i.route.ok).keep
  have heq : ∀ w, (Op.equalIn 10000 57 (.agg (rc i.route)) (.agg (rc (wd i.route)))).run Tryz.prog w = .ok (decide (i.route = wd i.route)) w := fun w => eq_rc 9995 i.route (wd i.route) w
  have HBU := Lib.hid (build_to i.route.to i.route.ok)
  rw [show (⟨i.route.to, 0, 0, i.route.ok⟩ : Rt) = wd i.route from rfl] at HBU
  have HD : Hid (decide (rightI i) = if i.kind = 1 ∨ i.kind = 2 then decide (rightR i.route) else if i.kind = 3 then (decide (rightP i.route.to) && decide (i.route = wd i.route)) else false) := by
    show decide (rightI i) = _
    rw [Bool.eq_iff_iff, decide_eq_true_eq]
    unfold rightI
    by_cases h1 : i.kind = 1 ∨ i.kind = 2
    · rw [if_pos h1]
      have h3 : ¬ i.kind = 3 := by omega
      simp [h1, h3]
    · rw [if_neg h1]
      by_cases h3 : i.kind = 3
      · rw [if_pos h3]
        simp [h3]
      · rw [if_neg h3]
        simp [h1, h3]
  clear hA hS hn hn2
  have HRC := Lib.hid (show rc i.route = rc i.route from rfl)
  generalize hD : decide (rightI i) = D at *
  by_cases h1 : i.kind = 1 ∨ i.kind = 2
  · rw [if_pos h1] at HD
    have h2 := HA.out.route HN2.out
    have HE := Lib.hid HD.out.symm
    generalize decide (rightR i.route) = q at *
    rcases h1 with h1 | h1
    · have hk1 : (i.kind == 1) = true := by simpa using h1
      generalize i.kind = k at *
      clear h1 heq hD
      generalize rc i.route = R at *
      generalize ic i = I at *
      go_enter Tryz.func58, Tryz.ntmps58
      go_wp2_with fail
      refine (HRT.out _).mono ?_
      rintro e w1 ⟨rfl, b1⟩
      go_wp2
      go_ret
      exact ⟨by rw [← HE.out]; rfl, HS.out.trans b1⟩
    · have hk1 : (i.kind == 1) = false := by simp [h1]
      have hk2 : (i.kind == 2) = true := by simpa using h1
      generalize i.kind = k at *
      clear h1 heq hD
      generalize rc i.route = R at *
      generalize ic i = I at *
      go_enter Tryz.func58, Tryz.ntmps58
      go_wp2_with fail
      refine (HRT.out _).mono ?_
      rintro e w1 ⟨rfl, b1⟩
      go_wp2
      go_ret
      exact ⟨by rw [← HE.out]; rfl, HS.out.trans b1⟩
  · rw [if_neg h1] at HD
    have hk1 : (i.kind == 1) = false := by simp; exact fun e => h1 (.inl e)
    have hk2 : (i.kind == 2) = false := by simp; exact fun e => h1 (.inr e)
    by_cases h3 : i.kind = 3
    · rw [if_pos h3] at HD
      have hk3 : (i.kind == 3) = true := by simpa using h3
      have h2 := HA.out.to HN.out
      have HE := Lib.hid HD.out.symm
      cases hq : decide (rightP i.route.to)
      · rw [hq] at HRP HE
        generalize i.kind = k at *
        clear h1 h3 heq hD
        generalize ic i = I at *
        generalize pc i.route.to = T at *
        go_enter Tryz.func58, Tryz.ntmps58
        go_wp2_with fail
        refine (HRP.out _).mono ?_
        rintro e w1 ⟨rfl, b1⟩
        go_wp2
        go_ret
        exact ⟨by rw [← HE.out]; rfl, HS.out.trans b1⟩
      · rw [hq] at HRP HE
        have HA2 := Lib.hid (fun (w' : World) (b : Keep (w.alloc (.cells (ic i) 59)) w') => And.intro ((HA.out.keep b).route HN2.out) ((HA.out.keep b).to HN.out))
        generalize i.kind = k at *
        generalize decide (i.route = wd i.route) = q at *
        clear h1 h3 hD HA
        generalize ic i = I at *
        generalize rc i.route = R at *
        generalize rc (wd i.route) = R2 at *
        generalize hT : pc i.route.to = T at *
        go_enter Tryz.func58, Tryz.ntmps58
        go_wp2_with fail
        refine (HRP.out _).mono ?_
        rintro e w1 ⟨rfl, b1⟩
        obtain ⟨h4, h5⟩ := HA2.out _ b1
        have HK1 := Lib.hid (HS.out.trans b1)
        clear h2 b1
        go_wp2_with (refine at_buildG [(0, .agg T)] (by rfl) rfl _ (HBU.out _) ?_)
        go_ret
        exact ⟨by rw [← HE.out]; cases q <;> rfl, HK1.out⟩
    · rw [if_neg h3] at HD
      have hk3 : (i.kind == 3) = false := by simpa using h3
      have HE := Lib.hid HD.out.symm
      generalize i.kind = k at *
      clear h1 h3 heq hD
      generalize ic i = I at *
      go_enter Tryz.func58, Tryz.ntmps58
      go_wp2
      go_ret
      exact ⟨by rw [← HE.out]; rfl, HS.out⟩

def ArRel (W : World) (l : List Ic) (i : Value) (wr : World) : Prop := ∃ k : Nat, i = .int .i64 k ∧ k ≤ l.length ∧ (∀ x ∈ l.take k, rightI x) ∧ Keep W wr
set_option maxRecDepth 100000 in
set_option maxHeartbeats 1000000 in
theorem iallRight (v : Value) (l : List Ic) (w : World) (h : Ls w v l) (hl : l.length ≤ 1000000) : Calls Tryz.prog 23 #[v] w fun e w' => e = .returned (.bool (decide (∀ i ∈ l, rightI i))) ∧ Keep w w' := by
  obtain ⟨a, cap, rfl⟩ := h.form
  obtain ⟨hz, hi⟩ := zero_of_info info43b
  obtain ⟨n, hn⟩ : ∃ n, n = 21 := ⟨21, rfl⟩
  have hsz : ∀ w, (Go.sizeOf 59).run Tryz.prog w = .ok n w := fun w => by rw [hn]; exact Tryz.sizeOf59 w
  have hn0 : ¬ n = 0 := by omega
  have hzs : (ic zeroI).size = n := by rw [hn]; exact ic_size _
  have hrn : ∀ i : Ic, (ic i).size = n := fun i => by rw [hn]; exact ic_size i
  have HN := Lib.hid hn
  have HL := Lib.hid h
  obtain ⟨N, hN⟩ : ∃ N, l.length = N := ⟨_, rfl⟩
  have HLN := Lib.hid hN
  rw [hN] at hl ⊢
  obtain ⟨D, hD⟩ : ∃ D, decide (∀ i ∈ l, rightI i) = D := ⟨_, rfl⟩
  rw [hD]
  have HD := Lib.hid hD
  clear hn h hN hD
  go_enter Tryz.func23, Tryz.ntmps23
  go_wp2
  go_loopw [7] (fun i wr => ArRel w l i wr) (fun i _ => N - (intOf i).toNat)
  case atStart => exact ⟨0, rfl, Nat.zero_le _, by simp, Keep.refl _⟩
  case round =>
    obtain ⟨k, rfl, hk1, hk2, hk⟩ := hrel
    rw [HLN.out] at hk1
    by_cases hlt : k < N
    · have hcl := HL.out.at k (by rw [HLN.out]; exact hlt)
      obtain ⟨g, o, cap', e, _, _, _⟩ := hcl.ptr k (by rw [HLN.out]; exact hlt)
      simp at e
      obtain ⟨rfl, rfl⟩ := e
      obtain ⟨x, hx⟩ : ∃ x, l[k]? = some x := ⟨_, List.getElem?_eq_getElem (by rw [HLN.out]; exact hlt)⟩
      have dx := (hcl.keep hk).ic HN.out k x hx
      have HA := Lib.hid (IAt.new wr zeroI)
      have HP := Lib.hid (HA.out.put x)
      have hst := HA.out.store x
      have hld := HP.out.whole HN.out
      have HKA := Lib.hid (hk.trans (((Keep.refl wr).alloc (.cells (ic zeroI) 59)).setRow wr.heap.size (ic x) (Nat.le_refl _)))
      have HR := Lib.hid (iright x)
      have HX := Lib.hid hx
      have HT := Lib.hid hk2
      clear hcl hx hk hk2 HA HP
      by_cases hxr : rightI x
      · rw [decide_eq_true hxr] at HR
        have HXR := Lib.hid hxr
        clear hxr
        go_wp2_with fail
        refine (HR.out _).mono ?_
        rintro e w1 ⟨rfl, b1⟩
        have HK1 := Lib.hid (HKA.out.trans b1)
        clear b1 HKA dx hst hld
        go_wp2
        go_roundw
        case rel =>
          refine ⟨k + 1, by go_num, by rw [HLN.out]; omega, ?_, HK1.out⟩
          intro y hy
          rw [List.take_add_one, HX.out] at hy
          rcases List.mem_append.1 hy with hy | hy
          · exact HT.out y hy
          · simp at hy; rw [hy]; exact HXR.out
        case measure => simp [intOf]; omega
      · rw [decide_eq_false hxr] at HR
        have HDF := Lib.hid (show D = false from by rw [← HD.out]; exact decide_eq_false fun e => hxr (e x (List.mem_of_getElem? HX.out)))
        clear hxr
        go_wp2_with fail
        refine (HR.out _).mono ?_
        rintro e w1 ⟨rfl, b1⟩
        have HK1 := Lib.hid (HKA.out.trans b1)
        clear b1 HKA dx hst hld
        go_wp2
        go_ret
        exact ⟨by rw [HDF.out]; rfl, HK1.out⟩
    · have hDt : D = true := by
        rw [List.take_of_length_le (by rw [HLN.out]; omega)] at hk2
        rw [← HD.out]
        exact decide_eq_true hk2
      have HDT := Lib.hid hDt
      have HK := Lib.hid hk
      clear hDt hk hk2
      go_wp2
      go_ret
      exact ⟨by rw [HDT.out]; rfl, HK.out⟩

/-! ### Fold -/
theorem ifold_nil (v : Value) : GivesK Tryz.prog 15 #[.pointer none, v] (.tuple #[.pointer none, .int .i64 0, .int .i64 10]) := by
  intro w
  go_enter Tryz.func15, Tryz.ntmps15
  go_wp2
  go_ret3
  exact ⟨rfl, Keep.refl w⟩
def FoRel (w : World) (c : Nat) (l : List Ic) (R : List Rt × Nat × Int) (iv : Value) (wr : World) : Prop := ∃ (k : Nat) (t : List Rt), iv = .int .i64 k ∧ k ≤ l.length ∧ R = foldS t (l.drop k) k ∧ Tb wr c t ∧ Keep w wr
def FoPost (w : World) (l : List Ic) (R : List Rt × Nat × Int) (e : Ending) (w' : World) : Prop :=
  Keep w w' ∧ ((R.2.2 = 0 ∧ ∃ c, e = .returned (.tuple #[.pointer (some ⟨c, 0, none⟩), .int .i64 (l.length : Nat), .int .i64 0]) ∧ w.heap.size ≤ c ∧ Tb w' c R.1) ∨ (R.2.2 ≠ 0 ∧ e = .returned (.tuple #[.pointer none, .int .i64 (R.2.1 : Nat), .int .i64 R.2.2])))
set_option maxRecDepth 100000 in
set_option maxHeartbeats 1000000 in
theorem ifold (b : Nat) (t : List Rt) (v : Value) (l : List Ic) (w : World) (ht : Tb w b t) (h : Ls w v l) (hl : l.length ≤ 1000000) : Calls Tryz.prog 15 #[.pointer (some ⟨b, 0, none⟩), v] w (FoPost w l (foldS t l 0)) := by
  obtain ⟨a, cap, rfl⟩ := h.form
  obtain ⟨hz, hi⟩ := zero_of_info info43b
  obtain ⟨n, hn⟩ : ∃ n, n = 21 := ⟨21, rfl⟩
  have hsz : ∀ w, (Go.sizeOf 59).run Tryz.prog w = .ok n w := fun w => by rw [hn]; exact Tryz.sizeOf59 w
  have hn0 : ¬ n = 0 := by omega
  have hzs : (ic zeroI).size = n := by rw [hn]; exact ic_size _
  have hrn : ∀ i : Ic, (ic i).size = n := fun i => by rw [hn]; exact ic_size i
  have HN := Lib.hid hn
  have HL := Lib.hid h
  have HCp := Lib.hid (copy b t w ht)
  obtain ⟨N, hN⟩ : ∃ N, l.length = N := ⟨_, rfl⟩
  have HLN := Lib.hid hN
  rw [hN] at hl ⊢
  obtain ⟨R, hR⟩ : ∃ R, foldS t l 0 = R := ⟨_, rfl⟩
  rw [hR]
  have HR := Lib.hid hR
  clear hn h hN hR ht
  unfold FoPost
  rw [HLN.out]
  go_enter Tryz.func15, Tryz.ntmps15
  go_wp2_with fail
  refine HCp.out.mono ?_
  rintro e w1 ⟨c, rfl, hc, t1, k1⟩
  have HT1 := Lib.hid t1
  have HK1 := Lib.hid k1
  clear t1 k1 HCp
  go_wp2
  go_loopw [17] (fun i wr => FoRel w c l R i wr) (fun i _ => N - (intOf i).toNat)
  case atStart => exact ⟨0, t, rfl, Nat.zero_le _, HR.out.symm, HT1.out, HK1.out⟩
  case round =>
    obtain ⟨k, t', rfl, hk1, hk2, hk3, hk⟩ := hrel
    rw [HLN.out] at hk1
    by_cases hlt : k < N
    · have hcl := HL.out.at k (by rw [HLN.out]; exact hlt)
      obtain ⟨g, o, cap', e, _, _, _⟩ := hcl.ptr k (by rw [HLN.out]; exact hlt)
      simp at e
      obtain ⟨rfl, rfl⟩ := e
      obtain ⟨x, hx⟩ : ∃ x, l[k]? = some x := ⟨_, List.getElem?_eq_getElem (by rw [HLN.out]; exact hlt)⟩
      have dx := (hcl.keep hk).ic HN.out k x hx
      rw [drop_cons' hx, foldS] at hk2
      have HA := Lib.hid (IAt.new wr zeroI)
      have HP := Lib.hid (HA.out.put x)
      have hst := HA.out.store x
      have hld := HP.out.whole HN.out
      have HKA := Lib.hid (((Keep.refl wr).alloc (.cells (ic zeroI) 59)).setRow wr.heap.size (ic x) (Nat.le_refl _))
      have HKW := Lib.hid (hk.trans HKA.out)
      have HDo := Lib.hid (do_at c t' x _ (hk3.keep HKA.out))
      have HRE := Lib.hid hk2
      clear hcl hx hk hk2 hk3 HA HP
      by_cases hd : (doS t' x.kind x.route).2 = 0
      · have HR2 := Lib.hid (show R = foldS (doS t' x.kind x.route).1 (l.drop (k + 1)) (k + 1) from by rw [HRE.out, if_pos hd])
        have hd' : (doS t' x.kind x.route).2 = 0 := hd
        clear hd
        generalize doS t' x.kind x.route = Y at *
        obtain ⟨y1, y2⟩ := Y
        simp only at hd' HR2 HDo
        subst hd'
        go_wp2_with fail
        refine HDo.out.mono ?_
        rintro e w2 ⟨rfl, t2, o2⟩
        have HT2 := Lib.hid t2
        have HK2 := Lib.hid (Only.made HKW.out o2 hc)
        clear t2 o2 dx hst hld
        go_wp2
        go_roundw
        case rel => exact ⟨k + 1, y1, by go_num, by rw [HLN.out]; omega, HR2.out, HT2.out, HK2.out⟩
        case measure => simp [intOf]; omega
      · have HR2 := Lib.hid (show R = (t', k, (doS t' x.kind x.route).2) from by rw [HRE.out, if_neg hd])
        generalize doS t' x.kind x.route = Y at *
        obtain ⟨y1, y2⟩ := Y
        simp only at hd HR2 HDo
        have hdb : (y2 != 0) = true := by simpa using hd
        have HDN := Lib.hid hd
        clear hd
        go_wp2_with fail
        refine HDo.out.mono ?_
        rintro e w2 ⟨rfl, t2, o2⟩
        have HK2 := Lib.hid (Only.made HKW.out o2 hc)
        clear t2 o2 dx hst hld
        go_wp2
        go_ret3
        rw [HR2.out]
        exact ⟨HK2.out, .inr ⟨HDN.out, rfl⟩⟩
    · have HR2 := Lib.hid (show R = (t', k, 0) from by rw [hk2, List.drop_of_length_le (by rw [HLN.out]; omega)]; rfl)
      have HT := Lib.hid hk3
      have HK := Lib.hid hk
      clear hk hk2 hk3
      go_wp2
      go_ret3
      rw [HR2.out]
      exact ⟨HK.out, .inl ⟨rfl, c, rfl, hc, HT.out⟩⟩
end Go.Proofs.YtgkgpdlakamgiaaGreat
