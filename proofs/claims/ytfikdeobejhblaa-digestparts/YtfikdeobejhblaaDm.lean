/- Proved: what the document's All answers. Condition: the list is short enough for memory. -/
import Derived.Test.YtfikdeobejhblaaDk
namespace Go.Proofs.Ytfikdeobejhblaa
open Go.RowKit

theorem make17Q (w : World) : ∃ w', (Instr.makeSlice 44 (.int .i64 17) (.int .i64 17)).run Try.prog w = .ok (.slice (some ⟨w.heap.size, 0, none⟩) 17 17) w' ∧ (∀ B, B ≤ w.heap.size → Own 93 2 dl B w' (.slice (some ⟨w.heap.size, 0, none⟩) 17 17) (allD [])) ∧ Keep w w' := by
  obtain ⟨it, h1, h2, h3, h4⟩ := info_all 93 _ _ _ infoQ
  have h := run_make (P := Try.prog) w 44 93 it _ elQ.under h1 h2 .i64 .i64 17 17 (by omega) (by omega) (by rw [h4]; omega) (by omega)
  refine ⟨_, h, fun B hB => ?_, (Keep.refl w).alloc _⟩
  rw [h3, allD_nil]
  have hc : madeCells (Value.agg (dl zeroD).toArray).cells (Int.toNat 17 * 2) = (flat dl (List.replicate 17 zeroD)).toArray := by kernel_rfl
  rw [hc]
  exact ⟨by simp [flatD_len], .inr ⟨w.heap.size, 17, _, rfl, hB, heap_alloc_last w _, by simp, by unfold maxLen; omega, by simp [flatD_len], by rfl⟩⟩

/-- The ranges below b are done, b stands at x. -/
def stD (l : List Rt) (b : Nat) (x : Dg) : List Dg := (List.range 17).map fun k => if k < b then dgOf l k else if k = b then x else zeroD
theorem stD_len (l : List Rt) (b : Nat) (x : Dg) : (stD l b x).length = 17 := by simp [stD]
theorem stD_get (l : List Rt) (b : Nat) (x : Dg) (k : Nat) (hk : k < 17) : (stD l b x)[k]? = some (if k < b then dgOf l k else if k = b then x else zeroD) := by
  unfold stD
  rw [List.getElem?_map, List.getElem?_range hk]
  rfl
theorem stD_ext {l : List Rt} {b : Nat} {x : Dg} {m : List Dg} (hm : m.length = 17) (h : ∀ k, k < 17 → m[k]? = some (if k < b then dgOf l k else if k = b then x else zeroD)) : m = stD l b x := by
  apply List.ext_getElem?
  intro k
  by_cases hk : k < 17
  · rw [h k hk, stD_get l b x k hk]
  · rw [List.getElem?_eq_none (by omega), List.getElem?_eq_none (by rw [stD_len]; omega)]
theorem stD_zero (l : List Rt) : allD [] = stD l 0 zeroD := by
  refine stD_ext (allD_len _) fun k hk => ?_
  rw [allD_get _ k hk, if_neg (by omega)]
  simp only [ite_self]
  rfl
theorem stD_set (l : List Rt) (b : Nat) (x y : Dg) (hb : b < 17) : (stD l b x).set b y = stD l b y := by
  refine stD_ext (by rw [List.length_set, stD_len]) fun k hk => ?_
  by_cases h : b = k
  · subst h
    rw [List.getElem?_set_self (by rw [stD_len]; exact hb)]
    simp
  · rw [List.getElem?_set_ne h, stD_get l b x k hk]
    simp [Ne.symm h]
theorem stD_next (l : List Rt) (b : Nat) : stD l b (dgOf l b) = stD l (b + 1) zeroD := by
  refine stD_ext (stD_len _ _ _) fun k hk => ?_
  rw [stD_get l b _ k hk]
  by_cases h1 : k < b
  · rw [if_pos h1, if_pos (by omega)]
  · by_cases h2 : k = b
    · subst h2
      simp
    · rw [if_neg h1, if_neg h2, if_neg (by omega)]
      simp
theorem stD_full (l : List Rt) (x : Dg) : stD l 17 x = allD l := by
  apply List.ext_getElem?
  intro k
  by_cases hk : k < 17
  · rw [stD_get l 17 x k hk, allD_get l k hk, if_pos hk]
  · rw [List.getElem?_eq_none (by rw [stD_len]; omega), List.getElem?_eq_none (by rw [allD_len]; omega)]
theorem dgR_snoc (p : List Rt) (k : Nat) (x : Rt) (hx : p[k]? = some x) (hp : p.length ≤ 1000000) : comeD (dgR (p.take k)) (markOf x) = dgR (p.take (k + 1)) := by
  rw [come_R x _ (by rw [List.length_take]; omega), List.take_add_one, hx]
  exact dgR_perm (by simpa using (List.perm_append_comm (l₁ := [x]) (l₂ := p.take k)))

def QaRel (W : World) (g : Nat) (l : List Rt) (i : Value) (wr : World) : Prop := ∃ b : Nat, i = .int .i64 b ∧ b ≤ 17 ∧ Own 93 2 dl g wr (.slice (some ⟨g, 0, none⟩) 17 17) (stD l b zeroD) ∧ Only g W wr
def QbRel (W : World) (g b : Nat) (l p : List Rt) (i : Value) (wr : World) : Prop := ∃ k : Nat, i = .int .i64 k ∧ k ≤ p.length ∧ Own 93 2 dl g wr (.slice (some ⟨g, 0, none⟩) 17 17) (stD l b (dgR (p.take k))) ∧ Only g W wr
set_option maxRecDepth 100000 in
set_option maxHeartbeats 1000000 in
theorem qall (v : Value) (l : List Rt) (w : World) (h : Cells rl w v l) (hl : l.length ≤ 100000) : Calls Try.prog 21 #[v] w fun e w' => ∃ g, e = .returned (.slice (some ⟨g, 0, none⟩) 17 17) ∧ Own 93 2 dl w.heap.size w' (.slice (some ⟨g, 0, none⟩) 17 17) (allD l) ∧ Keep w w' := by
  obtain ⟨a, cap, rfl, hc1, hc2⟩ := h.form
  obtain ⟨w1, hmk, ho1, hk1⟩ := make17Q w
  obtain ⟨n, hn⟩ : ∃ n, n = 20 := ⟨20, rfl⟩
  have hsz : ∀ w, (Go.sizeOf 37).run Try.prog w = .ok n w := fun w => by rw [hn]; exact Try.sizeOf37 w
  have hn0 : ¬ n = 0 := by omega
  have HN := Lib.hid hn
  have HO1 := Lib.hid (ho1 w.heap.size (Nat.le_refl _))
  have HC1 := Lib.hid (h.keep hk1)
  have HK1 := Lib.hid hk1
  have hgl : ∀ g, (Value.slice a l.length cap).ownBlock = some g → g < w.heap.size := fun g e => h.lt e
  obtain ⟨g, hg⟩ : ∃ g, w.heap.size = g := ⟨_, rfl⟩
  have HG := Lib.hid hg
  rw [hg] at hmk HO1 hgl
  rw [hg]
  have HNE := Lib.hid (show (Value.slice a l.length cap).ownBlock ≠ some g from fun e => Nat.lt_irrefl _ (hgl g e))
  obtain ⟨L, hL⟩ : ∃ n, l.length = n := ⟨_, rfl⟩
  have HL := Lib.hid hL
  rw [hL] at HC1 HNE hl ⊢
  clear h hn hg hgl ho1 hk1 hL hc1
  go_enter Try.func21, Try.ntmps21
  go_wp2
  go_loopw [4] (fun i wr => QaRel w1 g l i wr) (fun i _ => 17 - (intOf i).toNat)
  case atStart => exact ⟨0, rfl, by omega, by rw [← stD_zero]; exact HO1.out, Only.refl _ _⟩
  case round =>
    obtain ⟨b, rfl, hb, ho, hq⟩ := hrel
    by_cases hlt : b < 17
    · have HPQ := Lib.hid (qpart (.slice a L cap) l b wr (HC1.out.only hq HNE.out) (by rw [HL.out]; exact hl))
      have HO := Lib.hid ho
      have HQ := Lib.hid hq
      clear ho hq
      generalize wr = wo at *
      go_wp2_with fail
      refine HPQ.out.mono ?_
      rintro e w2 ⟨v2, rfl, o2, k2⟩
      obtain ⟨a2, c2, e2, _, _⟩ := (o2.row elR).cells.form
      subst e2
      have HNE2 := Lib.hid (show (Value.slice a2 (partB l b).length c2).ownBlock ≠ some g from fun e => by
        have h1 := (o2.lt g e).1
        have h2 := (HO.out.lt g rfl).2
        omega)
      have HP := Lib.hid (o2.row elR).cells
      have HO2 := Lib.hid (HO.out.keep k2)
      have HQ2 := Lib.hid (HQ.out.trans (Only.keep k2))
      have hpl := part_len l b
      rw [HL.out] at hpl
      have HDG := Lib.hid (show dgR (partB l b) = dgOf l b from rfl)
      generalize partB l (b : Nat) = p at *
      obtain ⟨N, hN⟩ : ∃ n, p.length = n := ⟨_, rfl⟩
      have HPL := Lib.hid hN
      rw [hN] at HP HNE2 hpl ⊢
      clear o2 k2 HPQ HO HQ hN
      go_wp2
      go_loopw [6] (fun i wr => QbRel w2 g b l p i wr) (fun i _ => N - (intOf i).toNat)
      case atStart => exact ⟨0, rfl, Nat.zero_le _, HO2.out, Only.refl _ _⟩
      case round =>
        obtain ⟨k, rfl, hk, ho, hq⟩ := hrel
        rw [HPL.out] at hk
        by_cases hkl : k < N
        · obtain ⟨gp, op, capp, ep, _, _, _⟩ := (show Cells rl w2 (.slice a2 p.length c2) p from by rw [HPL.out]; exact HP.out).ptr k (by rw [HPL.out]; exact hkl)
          simp at ep
          obtain ⟨rfl, rfl⟩ := ep
          obtain ⟨x, hx⟩ : ∃ x, p[k]? = some x := ⟨_, List.getElem?_eq_getElem (by rw [HPL.out]; exact hkl)⟩
          have hgx : (stD l b (dgR (p.take k)))[b]? = some (dgR (p.take k)) := by
            rw [stD_get l b _ b hlt]
            simp
          have hsn := dgR_snoc p k x hx (by rw [HPL.out]; omega)
          have hraw : wr.ownsRow g 93 2 (.slice (some ⟨g, 0, none⟩) 17 17) 17 (flat dl (stD l b (dgR (p.take k)))) := by
            have := ho
            unfold Own at this
            rwa [stD_len] at this
          have hfl := flatD_len (stD l b (dgR (p.take k)))
          rw [stD_len] at hfl
          have c0 := row_cell hraw (b * 2) _ (flat_n _ b _ hgx)
          have f0 := row_free hraw (b * 2)
          have h2 := row_set hraw (b * 2) (by omega) (.int .i64 (dgR (p.take (k + 1))).n)
          have c1 : ((flat dl (stD l b (dgR (p.take k)))).set (b * 2) (.int .i64 (dgR (p.take (k + 1))).n))[b * 2 + 1]? = some (.int .u64 (dgR (p.take k)).s) := by
            rw [List.getElem?_set_ne (by omega), flat_s _ b _ hgx]
          have HF := Lib.hid (show ((flat dl (stD l b (dgR (p.take k)))).set (b * 2) (.int .i64 (dgR (p.take (k + 1))).n)).set (b * 2 + 1) (.int .u64 (dgR (p.take (k + 1))).s) = flat dl (stD l b (dgR (p.take (k + 1)))) by rw [flat_two _ b _ (by rw [stD_len]; exact hlt), stD_set l b _ _ hlt])
          have hwn : wrap64 ((dgR (p.take k)).n + 1) = (dgR (p.take (k + 1))).n := by rw [← hsn]; rfl
          have hws : IntKind.u64.wrap ((dgR (p.take k)).s + markOf x) = (dgR (p.take (k + 1))).s := by rw [← hsn]; rfl
          have HM := Lib.hid (qmark x)
          have hq1 : Only g w2 (wr.setCell ⟨g, b * 2, none⟩ (.int .i64 (dgR (p.take (k + 1))).n)) := hq.trans (Only.setCell g (b * 2) _ _)
          have HSk := Lib.hid (fun (w' : World) (q : Keep (wr.setCell ⟨g, b * 2, none⟩ (.int .i64 (dgR (p.take (k + 1))).n)) w') => (show w'.cell? ⟨g, b * 2 + 1, none⟩ = some (.int .u64 (dgR (p.take k)).s) ∧ (loadCellsFrom ⟨gp, op + k * n, none⟩ 0 n #[]).run Try.prog w' = .ok (rc x) w' ∧ w'.frozen? ⟨g, b * 2 + 1, none⟩ = false from ⟨row_cell (row_keep h2 q) _ _ c1, (show Cells rl w' (.slice (some ⟨gp, op, none⟩) p.length c2) p from by rw [HPL.out]; exact (HP.out.only hq1 HNE2.out).keep q).rt HN.out k x hx, row_free (row_keep h2 q) _⟩))
          have H2 := Lib.hid h2
          have HQ1 := Lib.hid hq1
          have HFL := Lib.hid hfl
          clear hgx hsn hraw h2 c1 hq1 ho hq hx hfl
          obtain ⟨d', hd'⟩ : ∃ d', dgR (p.take (k + 1)) = d' := ⟨_, rfl⟩
          have HTK2 := Lib.hid hd'
          simp only [hd'] at c0 HF hwn hws H2 HQ1 HSk f0
          clear hd'
          generalize dgR (p.take k) = d at *
          generalize markOf x = m at *
          obtain ⟨dn, ds⟩ := d
          simp only at hwn hws c0 HSk
          generalize rc x = X at *
          go_wp2
          generalize wr.setCell ⟨g, b * 2, none⟩ (.int .i64 d'.n) = w3 at *
          obtain ⟨s1, s2, s3⟩ := HSk.out _ (Keep.refl w3)
          have s4 := (HSk.out _ (Keep.refl w3).drew).2.1
          go_region_with (go_at_call 16; refine (HM.out _).mono ?_; rintro e w4 ⟨rfl, b4⟩; have hk4 := ((Keep.refl w3).drew).trans b4; obtain ⟨t1, t2, t3⟩ := HSk.out _ hk4; clear b4)
          all_goals
            have HRL := Lib.hid (show QbRel w2 g b l p (.int .i64 ((k : Int) + 1)) (w4.setCell ⟨g, b * 2 + 1, none⟩ (.int .u64 d'.s)) from ⟨k + 1, by go_num, by rw [HPL.out]; omega, by
              rw [HTK2.out]
              have := row_set (row_keep H2.out hk4) (b * 2 + 1) (by rw [List.length_set, HFL.out]; omega) (.int .u64 d'.s)
              rw [HF.out] at this
              unfold Own
              rw [stD_len]
              exact this, HQ1.out.trans ((Only.keep hk4).trans (Only.setCell g (b * 2 + 1) _ _))⟩)
            clear hk4 s1 s2 s3 s4 t1 t2 t3 hws hwn c0 f0
            go_wp2
            go_roundw
            case rel => exact HRL.out
            case measure => simp [intOf]; omega
        · obtain rfl : k = N := by omega
          have HFN := Lib.hid (show QaRel w1 g l (.int .i64 ((b : Int) + 1)) wr from ⟨b + 1, by go_num, by omega, by
            rw [List.take_of_length_le (by rw [HPL.out]; exact Nat.le_refl _), HDG.out, stD_next] at ho
            exact ho, HQ2.out.trans hq⟩)
          clear ho hq
          go_wp2
          go_roundw
          case rel => exact HFN.out
          case measure => simp [intOf]; omega
    · obtain rfl : b = 17 := by omega
      rw [stD_full] at ho
      have HO := Lib.hid ho
      have HQ := Lib.hid hq
      clear ho hq
      go_wp2
      go_ret
      exact ⟨g, rfl, HO.out, Only.made HK1.out HQ.out (by rw [HG.out]; exact Nat.le_refl _)⟩
end Go.Proofs.Ytfikdeobejhblaa
