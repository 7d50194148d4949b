/- Proved: what digest's All answers. Condition: the table lies in memory, or is none. -/
import Derived.Test.YtfikdeobejhblaaDc
import Derived.Laws.MakeOwn
namespace Go.Proofs.Ytfikdeobejhblaa
open Go.RowKit

theorem make17 (w : World) : ∃ w', (Instr.makeSlice 42 (.int .i64 17) (.int .i64 17)).run Try.prog w = .ok (.slice (some ⟨w.heap.size, 0, none⟩) 17 17) w' ∧ (∀ B, B ≤ w.heap.size → Own 68 2 dl B w' (.slice (some ⟨w.heap.size, 0, none⟩) 17 17) (allD [])) ∧ Keep w w' := by
  obtain ⟨it, h1, h2, h3, h4⟩ := info_all 68 _ _ _ infoD
  have h := run_make (P := Try.prog) w 42 68 it _ elD.under h1 h2 .i64 .i64 17 17 (by omega) (by omega) (by rw [h4]; omega) (by omega)
  refine ⟨_, h, fun B hB => ?_, (Keep.refl w).alloc _⟩
  rw [h3, allD_nil]
  have hc : madeCells (Value.agg (dl zeroD).toArray).cells (Int.toNat 17 * 2) = (flat dl (List.replicate 17 zeroD)).toArray := by kernel_rfl
  rw [hc]
  exact ⟨by simp [flatD_len], .inr ⟨w.heap.size, 17, _, rfl, hB, heap_alloc_last w _, by simp, by unfold maxLen; omega, by simp [flatD_len], by rfl⟩⟩

def AlRel (w : World) (B g : Nat) (l : List Rt) (i : Value) (wr : World) : Prop := ∃ k : Nat, i = .int .i64 k ∧ k ≤ l.length ∧ Own 68 2 dl B wr (.slice (some ⟨g, 0, none⟩) 17 17) (allD (l.take k)) ∧ Only g w wr
theorem all_snoc (l : List Rt) (k : Nat) (x : Rt) (hx : l[k]? = some x) (hl : l.length ≤ 1000000) : (allD (l.take k)).set (bkt x.to) (comeD (dgOf (l.take k) (bkt x.to)) (markOf x)) = allD (l.take (k + 1)) := by
  have hlen : (l.take k).length < 1000000000 := by rw [List.length_take]; omega
  rw [all_cons x _ hlen, List.take_add_one, hx]
  exact allD_perm (by simpa using (List.perm_append_comm (l₁ := [x]) (l₂ := l.take k)))

set_option maxRecDepth 100000 in
set_option maxHeartbeats 1000000 in
theorem dall (t : Value) (l : List Rt) (w : World) (h : Tp w t l) : Calls Try.prog 20 #[t] w fun e w' => ∃ g, e = .returned (.slice (some ⟨g, 0, none⟩) 17 17) ∧ Own 68 2 dl w.heap.size w' (.slice (some ⟨g, 0, none⟩) 17 17) (allD l) ∧ Keep w w' := by
  obtain ⟨w1, hmk, ho1, hk1⟩ := make17 w
  obtain ⟨hz, hi⟩ := zero_of_info info34b
  obtain ⟨n, hn⟩ : ∃ n, n = 20 := ⟨20, rfl⟩
  have hsz : ∀ w, (Go.sizeOf 37).run Try.prog w = .ok n w := fun w => by rw [hn]; exact Try.sizeOf37 w
  have hn0 : ¬ n = 0 := by omega
  obtain ⟨n2, hn2⟩ : ∃ n, n = 18 := ⟨18, rfl⟩
  have hsz2 : ∀ w, (Go.sizeOf 34).run Try.prog w = .ok n2 w := fun w => by rw [hn2]; exact Try.sizeOf34 w
  have hn20 : ¬ n2 = 0 := by omega
  have hzs : (rc zeroR).size = n := by rw [hn]; exact rc_size _
  have HN := Lib.hid hn
  have HN2 := Lib.hid hn2
  have HO1 := Lib.hid (ho1 w.heap.size (Nat.le_refl _))
  have HK1 := Lib.hid hk1
  have HA := Lib.hid (all t l w1 (h.keep hk1))
  have hl : l.length ≤ 300 := h.few
  clear h hn hn2 hi ho1 hk1
  obtain ⟨g, hg⟩ : ∃ g, w.heap.size = g := ⟨_, rfl⟩
  have HG := Lib.hid hg
  rw [hg] at hmk HO1
  rw [hg]
  clear hg
  go_enter Try.func20, Try.ntmps20
  go_wp2_with fail
  refine HA.out.mono ?_
  rintro e w2 ⟨v2, rfl, o2, b2⟩
  obtain ⟨a, cap, e2, _, _⟩ := (o2.row elR).cells.form
  subst e2
  have HC := Lib.hid (o2.row elR).cells
  obtain ⟨L, hL⟩ : ∃ n, l.length = n := ⟨_, rfl⟩
  have HL := Lib.hid hL
  rw [hL] at HC hl ⊢
  have HO2 := Lib.hid (HO1.out.keep b2)
  have HK2 := Lib.hid (HK1.out.trans b2)
  have HGL := Lib.hid (show (Value.slice a L cap).ownBlock ≠ some g from fun e => by
    have h1 := (o2.lt g (by rw [hL]; exact e)).1
    have h2 := (HO1.out.lt g rfl).2
    omega)
  clear o2 b2 hL HA HO1 HK1 hmk
  have HDC := Lib.hid (fun (wc : World) (l' : List Dg) (hl' : l'.length = 17) (h : Own 68 2 dl g wc (.slice (some ⟨g, 0, none⟩) 17 17) l') (b : Nat) (d : Dg) (hd : l'[b]? = some d) (r : Rt) => come g wc g 17 17 l' hl' h b d hd r)
  go_wp2
  go_loopw [10] (fun i wr => AlRel w2 g g l i wr) (fun i _ => L - (intOf i).toNat)
  case atStart => exact ⟨0, rfl, Nat.zero_le _, by rw [List.take_zero]; exact HO2.out, Only.refl _ _⟩
  case round =>
    obtain ⟨k, rfl, hkL, ho, hk⟩ := hrel
    rw [HL.out] at hkL
    by_cases hlt : k < L
    · obtain ⟨gl, o, cap', e, _, _, _⟩ := (show Cells rl w2 (.slice a l.length cap) l from by rw [HL.out]; exact HC.out).ptr k (by rw [HL.out]; exact hlt)
      rw [HL.out] at e
      simp at e
      obtain ⟨rfl, rfl⟩ := e
      obtain ⟨x, hx⟩ : ∃ x, l[k]? = some x := ⟨_, List.getElem?_eq_getElem (by rw [HL.out]; exact hlt)⟩
      have hcl : Cells rl wr (.slice (some ⟨gl, o, none⟩) l.length cap) l := by rw [HL.out]; exact HC.out.only hk HGL.out
      have d1 := hcl.rt HN.out k x hx
      have hA := RAt.new wr zeroR
      have hst := hA.store x
      have hzx : (rc x).size = n := by rw [HN.out]; exact rc_size _
      have HR3 := Lib.hid (hA.put x)
      have HK3 := Lib.hid (show Keep wr ((wr.alloc (.cells (rc zeroR) 37)).setRow wr.heap.size (rc x)) from ((Keep.refl wr).alloc _).setRow _ _ (Nat.le_refl _))
      have HO := Lib.hid ho
      have HK := Lib.hid hk
      have HBK := Lib.hid (dbucket x.to x.ok).keep
      have hbk := bkt_lt x.to
      have HGD := Lib.hid (allD_get (l.take k) (bkt x.to) hbk)
      have HSN := Lib.hid (all_snoc l k x hx (by rw [HL.out]; omega))
      have HCM := Lib.hid (fun (wc : World) (h : Own 68 2 dl g wc (.slice (some ⟨g, 0, none⟩) 17 17) (allD (l.take k))) => HDC.out wc _ (allD_len _) h (bkt x.to) _ HGD.out x)
      rw [HSN.out] at HCM
      clear hcl hA hx ho hk HGD HSN HDC
      generalize bkt x.to = b at *
      have hb17 : (b : Int) < 17 := by omega
      obtain ⟨X, hX⟩ : ∃ X, rc x = X := ⟨_, rfl⟩
      have HX := Lib.hid hX
      simp only [hX] at d1 hst hzx HR3 HK3 HCM
      clear hX
      generalize (wr.alloc (.cells (rc zeroR) 37)).setRow wr.heap.size X = w3 at *
      have HSk := Lib.hid (fun (w' : World) (h : RAt w' wr.heap.size x) => (show (loadCellsFrom ⟨wr.heap.size, 0, none⟩ 0 n2 #[]).run Try.prog w' = .ok (pc x.to) w' ∧ (loadCellsFrom ⟨wr.heap.size, 0, none⟩ 0 n #[]).run Try.prog w' = .ok X w' from ⟨h.to HN2.out, by rw [← HX.out]; exact h.whole HN.out⟩))
      have hgne : wr.heap.size ≠ g := Nat.ne_of_gt (HO.out.lt g rfl).2
      have HNE := Lib.hid hgne
      have hra : RAt w3.drew wr.heap.size x := HR3.out.keep (Keep.refl w3).drew
      have hq := (Keep.refl w3).drew
      clear hgne
      go_wp2
      go_region_held_law (fun w' => (loadCellsFrom ⟨wr.heap.size, 0, none⟩ 0 n2 #[]).run Try.prog w' = .ok (pc x.to) w' ∧ (loadCellsFrom ⟨wr.heap.size, 0, none⟩ 0 n #[]).run Try.prog w' = .ok X w') (exact HSk.out _ hra) (first | (go_at_call 17; refine (HBK.out _).mono ?_; rintro e w4 ⟨rfl, b4⟩; replace hra := RAt.keep hra b4; replace hq := hq.trans b4; clear b4) | (go_at_call 56; refine (HCM.out _ (HO.out.keep (HK3.out.trans hq))).mono ?_; rintro e w5 ⟨rfl, o5, n5⟩; replace hra := n5.obj hra HNE.out))
      have HRL := Lib.hid (show AlRel w2 g g l (.int .i64 (k + 1 : Nat)) w5 from ⟨k + 1, rfl, by rw [HL.out]; omega, o5, HK.out.trans ((Only.keep (HK3.out.trans hq)).trans n5)⟩)
      clear hra hq o5 n5
      go_wp2
      go_roundw
      case rel => exact HRL.out
      case measure => simp [intOf]; omega
    · obtain rfl : k = L := by omega
      rw [List.take_of_length_le (by rw [HL.out]; exact Nat.le_refl _)] at ho
      have HO := Lib.hid ho
      have HK := Lib.hid hk
      clear ho hk
      go_wp2
      go_ret
      exact ⟨g, rfl, HO.out, Only.made HK2.out HK.out (by rw [HG.out]; exact Nat.le_refl _)⟩
end Go.Proofs.Ytfikdeobejhblaa
