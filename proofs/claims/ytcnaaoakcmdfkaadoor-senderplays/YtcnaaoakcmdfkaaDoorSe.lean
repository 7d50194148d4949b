/- Proved: which chunks the sender's due answers. Condition: the sender lies in memory (S); there were at most a million ticks. -/
import Derived.Test.YtcnaaoakcmdfkaaDoorSc
namespace Go.Proofs.YtcnaaoakcmdfkaaDoor
open Go.RowKit

theorem info65 : (Tryd.prog.info? 65).map (fun i => (i.zero, i.size)) = some (some (.agg (ke zeroC).toArray), 3) := by kernel_rfl
/-- A chunk lies in block b. -/
def CAt (w : World) (b : Nat) (c : Ck) : Prop := w.heap[b]? = some (.cells (ke c).toArray 65 (0, 0))
theorem CAt.new (w : World) (c : Ck) : CAt (w.alloc (.cells (ke c).toArray 65)) w.heap.size c := heap_alloc_last w _
theorem CAt.keep {w w' : World} {b : Nat} {c : Ck} (h : CAt w b c) (k : Keep w w') : CAt w' b c := k.obj h
theorem CAt.tries {w : World} {b : Nat} {c : Ck} (h : CAt w b c) : w.cell? ⟨b, 1, none⟩ = some (.int .i64 (c.tries : Nat)) := cell_obj h rfl
theorem CAt.last {w : World} {b : Nat} {c : Ck} (h : CAt w b c) : w.cell? ⟨b, 2, none⟩ = some (.int .i64 (c.last : Nat)) := cell_obj h rfl
theorem CAt.store {w : World} {b : Nat} {z : Ck} (h : CAt w b z) (c : Ck) : (storeCells ⟨b, 0, none⟩ (ke c)).run Tryd.prog w = .ok () (w.setRow b (ke c).toArray) := by
  have hsc := run_storeCells_from (P := Tryd.prog) b 65 (ke c) 0 (ke z).toArray w h (by simp [ke_len]) (ke_one c)
  rw [List.take_zero, List.nil_append] at hsc
  exact hsc
theorem CAt.put {w : World} {b : Nat} {z : Ck} (h : CAt w b z) (c : Ck) : CAt (w.setRow b (ke c).toArray) b c := block_row h _

theorem Own.low {α : Type} {t k B B' : Nat} {enc : α → List Value} {w : World} {v : Value} {l : List α} (h : Own t k enc B w v l) (hb : B' ≤ B) : Own t k enc B' w v l := by
  refine ⟨h.1, ?_⟩
  rcases h.2 with h1 | ⟨g, cap, cur, h1, h2, h3⟩
  · exact .inl h1
  · exact .inr ⟨g, cap, cur, h1, by omega, h3⟩
def DuRel (W : World) (s : Sd) (v iv : Value) (wr : World) : Prop :=
  ∃ k : Nat, iv = .int .i64 k ∧ k ≤ s.win.length ∧ OwnI W.heap.size wr v ((s.win.take k).filter s.fresh) ∧ Keep W wr
section
variable {b bm bc : Nat} {s : Sd} {w : World}
set_option maxRecDepth 100000 in
set_option maxHeartbeats 1000000 in
theorem due_at (h : S w b bm bc s) (hnow : s.now ≤ 1000001) : Calls Tryd.prog 41 #[.pointer (some ⟨b, 0, none⟩)] w fun e w' => ∃ v, e = .returned v ∧ OwnI w.heap.size w' v s.due ∧ Keep w w' := by
  obtain ⟨hz, _⟩ := zero_of_info info65
  obtain ⟨n, hn⟩ : ∃ n, n = 3 := ⟨3, rfl⟩
  have hsz : ∀ w, (Go.sizeOf 65).run Tryd.prog w = .ok n w := fun w => by rw [hn]; exact Tryd.sizeOf65 w
  have hn0 : ¬ n = 0 := by omega
  have hn3 := Lib.hid hn
  clear hn
  have hbl : baseN s.l ≤ 256 := Nat.le_trans (base_le s.l) h.map.few
  have HBase := Lib.hid (mbase_at bm s.l w h.map)
  have HMis := Lib.hid (missing_at bm s.l (baseN s.l : Nat) ((baseN s.l : Nat) + 8) w h.map (by omega))
  have c0 := h.ptr
  have HS := Lib.hid h
  have HWL := Lib.hid (fun k => (show ((s.win.take k).filter s.fresh).length ≤ 256 from Nat.le_trans (List.length_filter_le _ _) (by rw [List.length_take]; have := win_len s; have := h.map.few; omega)))
  have HWI := Lib.hid h.good.win
  have hwl := win_len s
  have hf := h.map.few
  have HW : Hid (s.win = misL s.l (baseN s.l : Nat) ((baseN s.l : Nat) + 8)) := Lib.hid rfl
  rw [← HW.out] at HMis
  have HD : Hid (s.due = s.win.filter s.fresh) := Lib.hid rfl
  clear HW h
  generalize baseN s.l = B at *
  go_enter Tryd.func41, Tryd.ntmps41
  go_wp2_with fail
  refine HBase.out.mono ?_
  rintro e w1 ⟨rfl, rfl⟩
  clear HBase
  go_wp2_with fail
  refine HMis.out.mono ?_
  rintro e w2 ⟨wv, rfl, hov, k2⟩
  have hwc := (Own.row elI hov).cells
  obtain ⟨wa, wcap, rfl, _, _⟩ := hwc.form
  obtain ⟨wl, hwlen⟩ : ∃ wl, s.win.length = wl := ⟨_, rfl⟩
  rw [hwlen] at hwl ⊢
  have HWC := Lib.hid hwc
  have K2 := Lib.hid k2
  have HLN := Lib.hid hwlen
  clear HMis hwc k2 c0 hwlen
  go_wp2_with fail
  go_loopw [3, 22] (fun v i wr => DuRel w2 s v i wr) (fun _ i _ => 300 - (intOf i).toNat)
  case atStart => exact ⟨0, rfl, Nat.zero_le _, Own.nil _ _, Keep.refl _⟩
  case round =>
    obtain ⟨k, rfl, hk, hO, hK⟩ := hrel
    rw [HLN.out] at hk
    have HO := Lib.hid hO
    have HK := Lib.hid hK
    clear hO hK
    by_cases hlt : k < wl
    · obtain ⟨i, hik⟩ : ∃ i, s.win[k]? = some i := ⟨_, List.getElem?_eq_getElem (by rw [HLN.out]; exact hlt)⟩
      have hi : i < s.ch.length := HWI.out i (List.mem_of_getElem? hik)
      have hc := HWC.out.keep HK.out
      obtain ⟨g, o, cap, hv, _, _, _⟩ := hc.ptr k (by rw [HLN.out]; exact hlt)
      rw [HLN.out] at hv
      injection hv with e1 e2 e3
      subst e1 e3
      have c7 := Cells.int hc k i hik
      clear hc e2
      have hS := HS.out.keep (K2.out.trans HK.out)
      have c3 := hS.list
      have hl3 := hS.whole i n hi hn3.out
      rw [show i * 3 = i * n by rw [hn3.out]] at hl3
      have hca := CAt.new wr zeroC
      have hst := hca.store (s.at i)
      have hcp := hca.put (s.at i)
      have K3 : Keep wr ((wr.alloc (.cells (ke zeroC).toArray 65)).setRow wr.heap.size (ke (s.at i)).toArray) := ((Keep.refl wr).alloc _).setRow _ _ (Nat.le_refl _)
      have HK3 := Lib.hid K3
      have a1 : ∀ u : KW ((wr.alloc (.cells (ke zeroC).toArray 65)).setRow wr.heap.size (ke (s.at i)).toArray), u.1.cell? ⟨wr.heap.size, 1, none⟩ = some (.int .i64 ((s.at i).tries : Nat)) := fun u => (hcp.keep u.2).tries
      have a2 : ∀ u : KW ((wr.alloc (.cells (ke zeroC).toArray 65)).setRow wr.heap.size (ke (s.at i)).toArray), u.1.cell? ⟨wr.heap.size, 2, none⟩ = some (.int .i64 ((s.at i).last : Nat)) := fun u => (hcp.keep u.2).last
      have a3 : ∀ u : KW ((wr.alloc (.cells (ke zeroC).toArray 65)).setRow wr.heap.size (ke (s.at i)).toArray), u.1.cell? ⟨b, 4, none⟩ = some (.int .i64 (s.now : Nat)) := fun u => ((hS.keep K3).keep u.2).now
      have hlast := HS.out.good.last i
      have hfr0 : s.fresh i = (decide ((s.at i).tries = 0) || decide ((s.at i).last + 4 ≤ s.now)) := rfl
      have hzs : (ke (s.at i)).length = n := by rw [hn3.out]; rfl
      clear hS hca hcp K3
      generalize (s.at i).tries = T at *
      generalize (s.at i).last = T2 at *
      generalize s.ch.length = N at *
      generalize ke zeroC = Z at *
      generalize ke (s.at i) = C at *
      generalize s.now = now at *
      by_cases ht : T = 0
      · have hT : ((T : Int) == 0) = true := by rw [ht]; rfl
        have hfr : s.fresh i = true := by rw [hfr0, decide_eq_true ht]; rfl
        have HE := Lib.hid (filter_take s.fresh s.win k i hik)
        rw [hfr, if_pos rfl] at HE
        clear hfr
        go_wp2_with fail
        refine wp_region_keep (Keep.refl _) (by kernel_rfl) (by kernel_rfl) ?_
        repeat (first | go_big_quiet_step (fail) | quiet_step (fail))
        refine wpQuiet_nil ?_
        rintro v4 ⟨⟨v5, k5⟩, hv⟩
        obtain rfl : v5 = v4 := hv.symm
        have HO2 := Lib.hid (HO.out.keep (HK3.out.trans k5))
        have HK4 := Lib.hid ((HK.out.trans HK3.out).trans k5)
        clear hv a1 a2 a3 hst k5 hl3 c3 c7 hT ht hfr0
        go_wp2_with (at_builtin; refine wp_app elI rfl _ _ rfl w2.heap.size _ _ ((s.win.take k).filter s.fresh) [i] rfl rfl (HO2.out.keep ((Keep.refl _).alloc _)) (one_int v5 i) ?q1 ?q2 ?q3 ?_)
        case q1 => have := HWL.out k; simp; omega
        case q2 => have := HWL.out k; simp; omega
        case q3 => have := HK4.out.size; simp; omega
        intro v' w3 hO3 hG
        have HO3 := Lib.hid hO3
        have HK5 := Lib.hid (HO2.out.grown2 HK4.out hG)
        clear hO3 hG
        go_wp2
        go_roundw
        case rel => exact ⟨k + 1, by go_num, by rw [HLN.out]; omega, by rw [HE.out]; exact HO3.out, HK5.out⟩
        case measure => simp [intOf]; omega
      · have hT : ((T : Int) == 0) = false := by simpa using ht
        by_cases h4 : T2 + 4 ≤ now
        · have hge : (now : Int) - (T2 : Int) ≥ 4 := by omega
          have hfr : s.fresh i = true := by rw [hfr0, decide_eq_true h4, Bool.or_true]
          have HE := Lib.hid (filter_take s.fresh s.win k i hik)
          rw [hfr, if_pos rfl] at HE
          clear hfr
          go_wp2_with fail
          refine wp_region_keep (Keep.refl _) (by kernel_rfl) (by kernel_rfl) ?_
          repeat (first | go_big_quiet_step (fail) | quiet_step (fail))
          refine wpQuiet_nil ?_
          rintro v4 ⟨⟨v5, k5⟩, hv⟩
          obtain rfl : v5 = v4 := hv.symm
          have HO2 := Lib.hid (HO.out.keep (HK3.out.trans k5))
          have HK4 := Lib.hid ((HK.out.trans HK3.out).trans k5)
          clear hv a1 a2 a3 hst k5 hl3 c3 c7 hT ht hfr0 hge h4
          go_wp2_with (at_builtin; refine wp_app elI rfl _ _ rfl w2.heap.size _ _ ((s.win.take k).filter s.fresh) [i] rfl rfl (HO2.out.keep ((Keep.refl _).alloc _)) (one_int v5 i) ?q1 ?q2 ?q3 ?_)
          case q1 => have := HWL.out k; simp; omega
          case q2 => have := HWL.out k; simp; omega
          case q3 => have := HK4.out.size; simp; omega
          intro v' w3 hO3 hG
          have HO3 := Lib.hid hO3
          have HK5 := Lib.hid (HO2.out.grown2 HK4.out hG)
          clear hO3 hG
          go_wp2
          go_roundw
          case rel => exact ⟨k + 1, by go_num, by rw [HLN.out]; omega, by rw [HE.out]; exact HO3.out, HK5.out⟩
          case measure => simp [intOf]; omega
        · have hge : ¬ (now : Int) - (T2 : Int) ≥ 4 := by omega
          have hfr : s.fresh i = false := by rw [hfr0, decide_eq_false ht, decide_eq_false h4]; rfl
          have HE := Lib.hid (filter_take s.fresh s.win k i hik)
          rw [hfr, if_neg (by simp), List.append_nil] at HE
          clear hfr
          go_wp2_with fail
          refine wp_region_keep (Keep.refl _) (by kernel_rfl) (by kernel_rfl) ?_
          repeat (first | go_big_quiet_step (fail) | quiet_step (fail))
          refine wpQuiet_nil ?_
          rintro v4 ⟨⟨v5, k5⟩, hv⟩
          obtain rfl : v5 = v4 := hv.symm
          have HO2 := Lib.hid (HO.out.keep (HK3.out.trans k5))
          have HK4 := Lib.hid ((HK.out.trans HK3.out).trans k5)
          rw [decide_eq_false (show ¬ (4 : Int) ≤ (now : Int) - (T2 : Int) by omega)]
          clear hv a1 a2 a3 hst k5 hl3 c3 c7 hT ht hfr0 hge h4
          go_wp2
          go_roundw
          case rel => exact ⟨k + 1, by go_num, by rw [HLN.out]; omega, by rw [HE.out]; exact HO2.out, HK4.out⟩
          case measure => simp [intOf]; omega
    · obtain rfl : k = wl := by omega
      have HE := Lib.hid (show s.win.take k = s.win by rw [List.take_of_length_le (by rw [HLN.out]; exact Nat.le_refl _)])
      go_wp2
      go_ret
      exact ⟨_, rfl, by rw [HD.out, ← HE.out]; exact HO.out.low K2.out.size, K2.out.trans HK.out⟩
end
end Go.Proofs.YtcnaaoakcmdfkaaDoor
