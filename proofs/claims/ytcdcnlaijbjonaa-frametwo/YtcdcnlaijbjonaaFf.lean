/- Proved: what Read of frame answers. Condition: the text is short enough for memory. -/
import Derived.Test.YtcdcnlaijbjonaaFe
namespace Go.Proofs.Ytcdcnlaijbjonaa
open Go.RowKit

theorem frameF_sq (l d : List UInt8) (hl : 13 ≤ l.length) (hd : d.length ≤ 9223372036854775807) : SqF (frameF l d) := by
  have h1 := numb_lt l 1 4 (by omega)
  have h2 := numb_lt l 5 4 (by omega)
  have h3 := numb_lt l 9 2 (by omega)
  have h4 := numb_lt l 11 2 (by omega)
  exact ⟨by show _ ≤ ((numb l 1 4 : Nat) : Int) ∧ ((numb l 1 4 : Nat) : Int) ≤ _; omega, by show _ ≤ ((numb l 5 4 : Nat) : Int) ∧ ((numb l 5 4 : Nat) : Int) ≤ _; omega, by show _ ≤ ((numb l 9 2 : Nat) : Int) ∧ ((numb l 9 2 : Nat) : Int) ≤ _; omega, by show _ ≤ ((numb l 11 2 : Nat) : Int) ∧ ((numb l 11 2 : Nat) : Int) ≤ _; omega, hd⟩
/-- The answer's place, behind which nothing that was there has turned. -/
structure Rs (w0 w : World) : Prop where
  res : FAt w w0.heap.size zeroF
  keep : Keep w0 w
theorem Rs.next {w0 w w' : World} (q : Rs w0 w) (k : Keep w w') : Rs w0 w' := ⟨q.res.keep k, q.keep.trans k⟩

set_option maxRecDepth 100000 in
set_option maxHeartbeats 1000000 in
theorem dread (l : List UInt8) (hl : l.length ≤ 1000000) (w : World) : Calls Try.prog 12 #[.string ⟨l.toArray⟩] w fun e w' => e = .returned (.tuple #[.agg (fc (readF l).1), .int .i64 (readF l).2]) ∧ Keep w w' := by
  obtain ⟨hz, _⟩ := zero_of_info infoF
  obtain ⟨hz2, _⟩ := zero_of_info infoH
  obtain ⟨n, hn⟩ : ∃ n, n = 6 := ⟨6, rfl⟩
  have hsz : ∀ w, (Go.sizeOf 23).run Try.prog w = .ok n w := fun w => by rw [hn]; exact Try.sizeOf23 w
  have hn0 : ¬ n = 0 := by omega
  have HN := Lib.hid hn
  have R0 : Rs w (w.alloc (.cells (fc zeroF) 23)) := ⟨FAt.new w zeroF, (Keep.refl w).alloc _⟩
  have HBZ := Lib.hid build_zero
  have HST := Lib.hid (fun (w1 : World) (q : Rs w w1) (f : Fr) => (⟨q.res.store f, (q.res.put f).whole HN.out, q.keep.setRow w.heap.size (fc f) (Nat.le_refl _)⟩ : (storeCells ⟨w.heap.size, 0, none⟩ (fc f).toList).run Try.prog w1 = .ok () (w1.setRow w.heap.size (fc f)) ∧ (loadCellsFrom ⟨w.heap.size, 0, none⟩ 0 n #[]).run Try.prog (w1.setRow w.heap.size (fc f)) = .ok (fc f) (w1.setRow w.heap.size (fc f)) ∧ Keep w (w1.setRow w.heap.size (fc f))))
  have HSZ := Lib.hid (fun f => (show (fc f).size = n by rw [HN.out]; rfl))
  clear hn
  by_cases c1 : l.length < 19
  · rw [read_short l c1]
    obtain ⟨hst, hl2, hK⟩ := HST.out _ R0 zeroF
    have hzs := HSZ.out zeroF
    have HK := Lib.hid hK
    clear R0 hK hz2
    go_enter Try.func12, Try.ntmps12
    generalize fc zeroF = Z at *
    go_wp2_with ((with_reducible refine at_build (t := 23) [] ?_ (.agg Z) ?_ ?_); rfl; exact HBZ.out _)
    refine bodyPost_ret (v := .tuple #[.agg Z, .int .i64 3]) ?_ rfl ⟨rfl, HK.out⟩
    simp [results, Try.results12, go_sem, hsz, hl2]
  · obtain ⟨m, hm⟩ : ∃ n, n = 15 := ⟨15, rfl⟩
    have hszm : ∀ w, (Go.sizeOf 41).run Try.prog w = .ok m w := fun w => by rw [hm]; exact Try.sizeOf41 w
    have hm0 : ¬ m = 0 := by omega
    have hall := all_head (w.heap.size + 1)
    have hsz1 : (w.alloc (.cells (fc zeroF) 23)).heap.size = w.heap.size + 1 := by simp
    have hnew : HAt ((w.alloc (.cells (fc zeroF) 23)).alloc (.cells (ac zh) 41)) (w.heap.size + 1) zh := ⟨by rw [← hsz1]; exact heap_alloc_last _ _, rfl⟩
    have hcp := copy_head _ _ l (by omega) hnew
    have HH := Lib.hid (hnew.put (l.take 15) (by rw [List.length_take]; omega))
    have HR1 := Lib.hid (R0.next (((Keep.refl _).alloc (.cells (ac zh) 41)).setRow (w.heap.size + 1) (ac (l.take 15)) (by rw [hsz1]; exact Nat.le_refl _)))
    have HNu := Lib.hid (number_at (w.heap.size + 1) (l.take 15) 13 2 (by omega) (by omega) (by omega) _ HH.out)
    rw [numb_take _ _ _ _ (by omega)] at HNu
    have HOp := Lib.hid (fun w => (opened l (by omega)).keep w)
    have hnl : numb l 13 2 < 65536 := numb_lt l 13 2 (by omega)
    clear R0 hm hnew hsz1
    by_cases c2 : l.length ≠ 19 + numb l 13 2
    · rw [read_form l c1 c2]
      have hne : ((l.length : Int) != 19 + ((numb l 13 2 : Nat) : Int)) = true := by simp; omega
      obtain ⟨hst, hl2, hK⟩ := HST.out _ HR1.out zeroF
      have HK := Lib.hid hK
      have hzs := HSZ.out zeroF
      clear hK HR1 HH c2
      generalize numb l 13 2 = N at *
      go_enter Try.func12, Try.ntmps12
      generalize fc zeroF = Z at *
      generalize ac zh = ZH at *
      go_wp2_with fail
      refine HNu.out.mono ?_
      rintro e w1 ⟨rfl, hw1⟩
      rw [← hw1] at hst hl2 HK
      clear hw1 HNu hcp
      go_wp2_with ((with_reducible refine at_build (t := 23) [] ?_ (.agg Z) ?_ ?_); rfl; exact HBZ.out _)
      refine bodyPost_ret (v := .tuple #[.agg Z, .int .i64 4]) ?_ rfl ⟨rfl, HK.out⟩
      simp [results, Try.results12, go_sem, hsz, hl2]
    · have hne : ((l.length : Int) != 19 + ((numb l 13 2 : Nat) : Int)) = false := by simp; omega
      by_cases c3 : (K.openB l).2 = 0
      · have ho : K.openB l = (l.take (l.length - 4), 0) := by
          rcases open_err l (by omega) with h5 | h5
          · exact h5
          · rw [h5] at c3; simp at c3
        unfold openV at HOp
        rw [ho] at HOp
        have HFr := Lib.hid (fun (w' : World) (k : Keep (((w.alloc (.cells (fc zeroF) 23)).alloc (.cells (ac zh) 41)).setRow (w.heap.size + 1) (ac (l.take 15))) w') => frame_at (w.heap.size + 1) (l.take 15) ((l.take (l.length - 4)).drop 15) w' (HH.out.keep k))
        rw [frameF_take _ _ _ (by omega)] at HFr
        have hq := frameF_sq l ((l.take (l.length - 4)).drop 15) (by omega) (by rw [List.length_drop, List.length_take]; omega)
        have HRi := Lib.hid (fun w => dright _ hq w)
        have hlt : (l.take (l.length - 4)).length = l.length - 4 := by rw [List.length_take]; omega
        have hex : (⟨(l.take (l.length - 4)).toArray⟩ : ByteArray).extract 15 (l.length - 4) = ⟨((l.take (l.length - 4)).drop 15).toArray⟩ := by
          have := ext_drop (l.take (l.length - 4)) 15
          rwa [hlt] at this
        have HNW := Lib.hid (fun (w1 : World) (q : Rs w w1) (f : Fr) => (show (storeCells ⟨w1.heap.size, 0, none⟩ (fc f).toList).run Try.prog (w1.alloc (.cells (fc zeroF) 23)) = .ok () ((w1.alloc (.cells (fc zeroF) 23)).setRow w1.heap.size (fc f)) ∧ FAt ((w1.alloc (.cells (fc zeroF) 23)).setRow w1.heap.size (fc f)) w1.heap.size f ∧ Rs w ((w1.alloc (.cells (fc zeroF) 23)).setRow w1.heap.size (fc f)) from
          ⟨(FAt.new w1 zeroF).store f, (FAt.new w1 zeroF).put f, q.next (((Keep.refl w1).alloc _).setRow w1.heap.size (fc f) (Nat.le_refl _))⟩))
        by_cases c4 : rightF (frameF l ((l.take (l.length - 4)).drop 15))
        · have er : readF l = (frameF l ((l.take (l.length - 4)).drop 15), 0) := by unfold readF; rw [if_neg c1, if_neg c2, if_neg (by simp [c3]), if_pos c4]
          rw [er]
          rw [decide_eq_true c4] at HRi
          clear hq c4 er c3 ho c2 HH
          generalize numb l 13 2 = N at *
          generalize frameF l ((l.take (l.length - 4)).drop 15) = f at *
          generalize l.take (l.length - 4) = t at *
          have hzf := HSZ.out f
          go_enter Try.func12, Try.ntmps12
          go_wp2_with fail
          refine HNu.out.mono ?_
          rintro e w1 ⟨rfl, hw1⟩
          rw [← hw1] at HR1 HFr
          clear hw1 HNu hcp
          go_wp2_with fail
          refine (HOp.out _).mono ?_
          rintro e w2 ⟨rfl, k2⟩
          have HR2 := Lib.hid (HR1.out.next k2)
          have HFr2 := Lib.hid (HFr.out _ k2)
          clear HR1 HFr k2
          go_wp2_with fail
          refine HFr2.out.mono ?_
          rintro e w3 ⟨rfl, k3⟩
          have HR3 := Lib.hid (HR2.out.next k3)
          obtain ⟨hst3, hF3, hR3⟩ := HNW.out w3 HR3.out f
          have HF4 := Lib.hid hF3
          have HR4 := Lib.hid hR3
          have hl4 := hF3.whole HN.out
          clear k3 HR2 HR3 hF3 hR3 HFr2
          go_wp2_with fail
          generalize (w3.alloc (.cells (fc zeroF) 23)).setRow w3.heap.size (fc f) = w4 at *
          refine (HRi.out _).mono ?_
          rintro e w5 ⟨rfl, k5⟩
          have HR5 := Lib.hid (HR4.out.next k5)
          have hl5 := (HF4.out.keep k5).whole HN.out
          obtain ⟨hst6, hl6, hK6⟩ := HST.out _ HR5.out f
          have HK := Lib.hid hK6
          clear k5 HR4 HR5 HF4 hl4 hK6 hst3
          go_wp2
          refine bodyPost_ret (v := .tuple #[.agg (fc f), .int .i64 0]) ?_ rfl ⟨rfl, HK.out⟩
          simp [results, Try.results12, go_sem, hsz, hl6]
        · have er : readF l = (zeroF, 1) := by unfold readF; rw [if_neg c1, if_neg c2, if_neg (by simp [c3]), if_neg c4]
          rw [er]
          rw [decide_eq_false c4] at HRi
          clear hq c4 er c3 ho c2 HH
          generalize numb l 13 2 = N at *
          generalize frameF l ((l.take (l.length - 4)).drop 15) = f at *
          generalize l.take (l.length - 4) = t at *
          have hzf := HSZ.out f
          go_enter Try.func12, Try.ntmps12
          go_wp2_with fail
          refine HNu.out.mono ?_
          rintro e w1 ⟨rfl, hw1⟩
          rw [← hw1] at HR1 HFr
          clear hw1 HNu hcp
          go_wp2_with fail
          refine (HOp.out _).mono ?_
          rintro e w2 ⟨rfl, k2⟩
          have HR2 := Lib.hid (HR1.out.next k2)
          have HFr2 := Lib.hid (HFr.out _ k2)
          clear HR1 HFr k2
          go_wp2_with fail
          refine HFr2.out.mono ?_
          rintro e w3 ⟨rfl, k3⟩
          have HR3 := Lib.hid (HR2.out.next k3)
          obtain ⟨hst3, hF3, hR3⟩ := HNW.out w3 HR3.out f
          have HF4 := Lib.hid hF3
          have HR4 := Lib.hid hR3
          have hl4 := hF3.whole HN.out
          clear k3 HR2 HR3 hF3 hR3 HFr2
          go_wp2_with fail
          generalize (w3.alloc (.cells (fc zeroF) 23)).setRow w3.heap.size (fc f) = w4 at *
          refine (HRi.out _).mono ?_
          rintro e w5 ⟨rfl, k5⟩
          have HR5 := Lib.hid (HR4.out.next k5)
          have hl5 := (HF4.out.keep k5).whole HN.out
          obtain ⟨hst6, hl6, hK6⟩ := HST.out _ HR5.out zeroF
          have hzs := HSZ.out zeroF
          have HK := Lib.hid hK6
          clear k5 HR4 HR5 HF4 hl4 hK6 hst3
          go_wp2_with ((with_reducible refine at_build (t := 23) [] ?_ (.agg (fc zeroF)) ?_ ?_); rfl; exact HBZ.out _)
          refine bodyPost_ret (v := .tuple #[.agg (fc zeroF), .int .i64 1]) ?_ rfl ⟨rfl, HK.out⟩
          simp [results, Try.results12, go_sem, hsz, hl6]
      · have ho : K.openB l = ([], 5) := by
          rcases open_err l (by omega) with h5 | h5
          · rw [h5] at c3; simp at c3
          · exact h5
        have er : readF l = (zeroF, 5) := by unfold readF; rw [if_neg c1, if_neg c2, if_pos c3]
        rw [er]
        unfold openV at HOp
        rw [ho] at HOp
        clear er c3 ho c2 HH
        generalize numb l 13 2 = N at *
        go_enter Try.func12, Try.ntmps12
        go_wp2_with fail
        refine HNu.out.mono ?_
        rintro e w1 ⟨rfl, hw1⟩
        rw [← hw1] at HR1
        clear hw1 HNu hcp
        go_wp2_with fail
        refine (HOp.out _).mono ?_
        rintro e w2 ⟨rfl, k2⟩
        obtain ⟨hst6, hl6, hK6⟩ := HST.out _ (HR1.out.next k2) zeroF
        have hzs := HSZ.out zeroF
        have HK := Lib.hid hK6
        clear HR1 k2 hK6
        go_wp2_with ((with_reducible refine at_build (t := 23) [] ?_ (.agg (fc zeroF)) ?_ ?_); rfl; exact HBZ.out _)
        refine bodyPost_ret (v := .tuple #[.agg (fc zeroF), .int .i64 5]) ?_ rfl ⟨rfl, HK.out⟩
        simp [results, Try.results12, go_sem, hsz, hl6]
end Go.Proofs.Ytcdcnlaijbjonaa
