/- Proved: what the document's Read of a frame answers. Condition: the text is short enough for memory. -/
import Derived.Test.YtcdcnlaijbjonaaFh
import Derived.Test.YtcdcnlaijbjonaaT
namespace Go.Proofs.Ytcdcnlaijbjonaa
open Go.RowKit

section
variable {P : Program} {ops : Array Oper} {C : Nat → World → Prop} {A : Oper → Bool} {Q : Act → Nat → Prop} {o : Oper} {rest : List Oper} {a : Act} {p : Nat}
theorem ph_build (hg : o.guard = none) (t : TypeId) (parts : Array (Nat × Operand)) (ho : o.op = .build t parts) (L : List (Nat × Value)) (hp : (parts.toList.map fun x => (x.1, a.eval x.2)) = L) (v : Value) (hr : ∀ w, (Instr.build t L.toArray).run P w = .ok v w)
    (h : wpPh P ops C A Q rest (a.put o.dst v) p) : wpPh P ops C A Q (o :: rest) a p := by
  refine ph_value hg v (fun w => ?_) h
  unfold execOp
  simp only [ho, Sem.run_bind, parts_list hp, hr, Result.andThen_ok, Sem.run_pure]
end
/-- Three worlds, one behind the other. -/
def Ph3 (a b c : World) : Nat → World → Prop
  | 0, w => w = a
  | 1, w => w = b
  | _, w => w = c
instance (a b c : World) : Nonempty (PW (Ph3 a b c)) := ⟨⟨a, 0, rfl⟩⟩
theorem index0 (s : List UInt8) (hi : 0 < s.length) (w : World) : (Instr.index 9 (.string ⟨s.toArray⟩) (.int .i64 0)).run Try.prog w = .ok (.int .u8 (numb s 0 1 : Nat)) w := by
  have e : s.take 1 = [s[0]] := by
    rw [show 1 = 0 + 1 from rfl, List.take_add_one, List.getElem?_eq_getElem hi]; rfl
  have h : numb s 0 1 = s[0].toNat := by
    unfold numb
    rw [List.drop_zero, e, vbF, vbF, Nat.mul_zero, Nat.zero_add]
  rw [h]
  go_simp
  rfl
theorem ext_mid (s : List UInt8) (a b : Nat) : (⟨s.toArray⟩ : ByteArray).extract a b = ⟨((s.drop a).take (b - a)).toArray⟩ := by
  apply ByteArray.ext; simp [ByteArray.data_extract]

set_option maxRecDepth 100000 in
set_option maxHeartbeats 2000000 in
theorem qread (l : List UInt8) (hl : l.length ≤ 1000000) (w : World) : Calls Try.prog 14 #[.string ⟨l.toArray⟩] w fun e w' => e = .returned (.tuple #[.agg (fc (readF l).1), .int .i64 (readF l).2]) ∧ Keep w w' := by
  obtain ⟨hz, _⟩ := zero_of_info infoF
  obtain ⟨n, hn⟩ : ∃ n, n = 6 := ⟨6, rfl⟩
  have hsz : ∀ w, (Go.sizeOf 23).run Try.prog w = .ok n w := fun w => by rw [hn]; exact Try.sizeOf23 w
  have hn0 : ¬ n = 0 := by omega
  have HN := Lib.hid hn
  have R0 : Rs w (w.alloc (.cells (fc zeroF) 23)) := ⟨FAt.new w zeroF, (Keep.refl w).alloc _⟩
  have HBZ := Lib.hid build_zero
  have HST := Lib.hid (fun (w1 : World) (q : Rs w w1) (f : Fr) => (⟨q.res.store f, (q.res.put f).whole HN.out, q.keep.setRow w.heap.size (fc f) (Nat.le_refl _)⟩ : (storeCells ⟨w.heap.size, 0, none⟩ (fc f).toList).run Try.prog w1 = .ok () (w1.setRow w.heap.size (fc f)) ∧ (loadCellsFrom ⟨w.heap.size, 0, none⟩ 0 n #[]).run Try.prog (w1.setRow w.heap.size (fc f)) = .ok (fc f) (w1.setRow w.heap.size (fc f)) ∧ Keep w (w1.setRow w.heap.size (fc f))))
  have HSZ := Lib.hid (fun f => (show (fc f).size = n by rw [HN.out]; rfl))
  clear hn
  by_cases c1 : l.length < 19
  · rw [read_short l c1]
    obtain ⟨hst, hl2, hK⟩ := HST.out _ R0 zeroF
    have hzs := HSZ.out zeroF
    have HK := Lib.hid hK
    clear R0 hK
    go_enter Try.func14, Try.ntmps14
    generalize fc zeroF = Z at *
    go_wp2_with ((with_reducible refine at_build (t := 23) [] ?_ (.agg Z) ?_ ?_); rfl; exact HBZ.out _)
    refine bodyPost_ret (v := .tuple #[.agg Z, .int .i64 3]) ?_ rfl ⟨rfl, HK.out⟩
    simp [results, Try.results14, go_sem, hsz, hl2]
  · have HV := Lib.hid (fun w => qvalue ((l.drop 13).take 2) (by rw [List.length_take]; omega) w)
    rw [show vbF 0 ((l.drop 13).take 2) = numb l 13 2 from rfl] at HV
    have hx := ext_mid l 13 15
    have hnl : numb l 13 2 < 65536 := numb_lt l 13 2 (by omega)
    have HOp := Lib.hid (fun w => (refOpened l (by omega)).keep w)
    by_cases c2 : l.length ≠ 19 + numb l 13 2
    · rw [read_form l c1 c2]
      have hne : ((l.length : Int) != 19 + ((numb l 13 2 : Nat) : Int)) = true := by simp; omega
      obtain ⟨hst, hl2, hK⟩ := HST.out _ R0 zeroF
      have HK := Lib.hid hK
      have hzs := HSZ.out zeroF
      clear hK c2
      generalize numb l 13 2 = N at *
      go_enter Try.func14, Try.ntmps14
      generalize fc zeroF = Z at *
      go_wp2_with fail
      refine (HV.out _).mono ?_
      rintro e w1 ⟨rfl, rfl⟩
      go_wp2_with ((with_reducible refine at_build (t := 23) [] ?_ (.agg Z) ?_ ?_); rfl; exact HBZ.out _)
      refine bodyPost_ret (v := .tuple #[.agg Z, .int .i64 4]) ?_ rfl ⟨rfl, HK.out⟩
      simp [results, Try.results14, go_sem, hsz, hl2]
    · have hne : ((l.length : Int) != 19 + ((numb l 13 2 : Nat) : Int)) = false := by simp; omega
      by_cases c3 : (K.openB l).2 = 0
      · have ho : K.openB l = (l.take (l.length - 4), 0) := by
          rcases open_err l (by omega) with h5 | h5
          · exact h5
          · rw [h5] at c3; simp at c3
        unfold openV at HOp
        rw [ho] at HOp
        have hq := frameF_sq l ((l.take (l.length - 4)).drop 15) (by omega) (by rw [List.length_drop, List.length_take]; omega)
        have hr := fun w => qright (frameF l ((l.take (l.length - 4)).drop 15)) hq.data w
        have HRi := Lib.hid hr
        have hlt : 15 ≤ (l.take (l.length - 4)).length := by rw [List.length_take]; omega
        have hex : (⟨(l.take (l.length - 4)).toArray⟩ : ByteArray).extract 15 (l.take (l.length - 4)).length = ⟨((l.take (l.length - 4)).drop 15).toArray⟩ := ext_drop _ _
        have i15 : (15 : Int) ≤ ((l.take (l.length - 4)).length : Int) := by omega
        have i13 : (13 : Int) ≤ ((l.take (l.length - 4)).length : Int) := by omega
        have i11 : (11 : Int) ≤ ((l.take (l.length - 4)).length : Int) := by omega
        have i9 : (9 : Int) ≤ ((l.take (l.length - 4)).length : Int) := by omega
        have i5 : (5 : Int) ≤ ((l.take (l.length - 4)).length : Int) := by omega
        have i0 : 0 < (l.take (l.length - 4)).length := by omega
        have x1 : (⟨(l.take (l.length - 4)).toArray⟩ : ByteArray).extract 1 5 = ⟨(((l.take (l.length - 4)).drop 1).take 4).toArray⟩ := ext_mid _ _ _
        have x2 : (⟨(l.take (l.length - 4)).toArray⟩ : ByteArray).extract 5 9 = ⟨(((l.take (l.length - 4)).drop 5).take 4).toArray⟩ := ext_mid _ _ _
        have x3 : (⟨(l.take (l.length - 4)).toArray⟩ : ByteArray).extract 9 11 = ⟨(((l.take (l.length - 4)).drop 9).take 2).toArray⟩ := ext_mid _ _ _
        have x4 : (⟨(l.take (l.length - 4)).toArray⟩ : ByteArray).extract 11 13 = ⟨(((l.take (l.length - 4)).drop 11).take 2).toArray⟩ := ext_mid _ _ _
        have v1 := fun w => qvalue (((l.take (l.length - 4)).drop 1).take 4) (by rw [List.length_take]; omega) w
        rw [show vbF 0 (((l.take (l.length - 4)).drop 1).take 4) = numb (l.take (l.length - 4)) 1 4 from rfl, numb_take _ _ _ _ (by omega)] at v1
        have v2 := fun w => qvalue (((l.take (l.length - 4)).drop 5).take 4) (by rw [List.length_take]; omega) w
        rw [show vbF 0 (((l.take (l.length - 4)).drop 5).take 4) = numb (l.take (l.length - 4)) 5 4 from rfl, numb_take _ _ _ _ (by omega)] at v2
        have v3 := fun w => qvalue (((l.take (l.length - 4)).drop 9).take 2) (by rw [List.length_take]; omega) w
        rw [show vbF 0 (((l.take (l.length - 4)).drop 9).take 2) = numb (l.take (l.length - 4)) 9 2 from rfl, numb_take _ _ _ _ (by omega)] at v3
        have v4 := fun w => qvalue (((l.take (l.length - 4)).drop 11).take 2) (by rw [List.length_take]; omega) w
        rw [show vbF 0 (((l.take (l.length - 4)).drop 11).take 2) = numb (l.take (l.length - 4)) 11 2 from rfl, numb_take _ _ _ _ (by omega)] at v4
        have hge := fun w => index0 (l.take (l.length - 4)) i0 w
        rw [numb_take l 0 1 (l.length - 4) (by omega)] at hge
        have hb0 : numb l 0 1 < 256 := numb_lt l 0 1 (by omega)
        have V1 := Lib.hid v1
        have V2 := Lib.hid v2
        have V3 := Lib.hid v3
        have V4 := Lib.hid v4
        have HB := Lib.hid (fun w => build_frame (numb l 0 1) (numb l 1 4) (numb l 5 4) (numb l 9 2) (numb l 11 2) ((l.take (l.length - 4)).drop 15) w)
        rw [show (⟨(numb l 0 1 : Nat), (numb l 1 4 : Nat), (numb l 5 4 : Nat), (numb l 9 2 : Nat), (numb l 11 2 : Nat), (l.take (l.length - 4)).drop 15⟩ : Fr) = frameF l ((l.take (l.length - 4)).drop 15) from rfl] at HB
        have HNW := Lib.hid (fun (w1 : World) (q : Rs w w1) (f : Fr) => (show (storeCells ⟨w1.heap.size, 0, none⟩ (fc f).toList).run Try.prog (w1.alloc (.cells (fc zeroF) 23)) = .ok () ((w1.alloc (.cells (fc zeroF) 23)).setRow w1.heap.size (fc f)) ∧ FAt ((w1.alloc (.cells (fc zeroF) 23)).setRow w1.heap.size (fc f)) w1.heap.size f ∧ Rs w ((w1.alloc (.cells (fc zeroF) 23)).setRow w1.heap.size (fc f)) from
          ⟨(FAt.new w1 zeroF).store f, (FAt.new w1 zeroF).put f, q.next (((Keep.refl w1).alloc _).setRow w1.heap.size (fc f) (Nat.le_refl _))⟩))
        clear v1 v2 v3 v4 hr
        by_cases c4 : rightF (frameF l ((l.take (l.length - 4)).drop 15))
        · have er : readF l = (frameF l ((l.take (l.length - 4)).drop 15), 0) := by unfold readF; rw [if_neg c1, if_neg c2, if_neg (by simp [c3]), if_pos c4]
          rw [er]
          rw [decide_eq_true c4] at HRi
          clear hq c4 er c3 ho c2
          generalize frameF l ((l.take (l.length - 4)).drop 15) = f at *
          generalize l.take (l.length - 4) = t at *
          generalize (t.drop 1).take 4 = y1 at *
          generalize (t.drop 5).take 4 = y2 at *
          generalize (t.drop 9).take 2 = y3 at *
          generalize (t.drop 11).take 2 = y4 at *
          generalize t.drop 15 = y5 at *
          have hzf := HSZ.out f
          generalize numb l 13 2 = N at *
          generalize numb l 0 1 = n0 at *
          generalize numb l 1 4 = n1 at *
          generalize numb l 5 4 = n2 at *
          generalize numb l 9 2 = n3 at *
          generalize numb l 11 2 = n4 at *
          go_enter Try.func14, Try.ntmps14
          go_wp2_with fail
          refine (HV.out _).mono ?_
          rintro e w1 ⟨rfl, rfl⟩
          go_wp2_with fail
          refine (HOp.out _).mono ?_
          rintro e w2 ⟨rfl, k2⟩
          have HR2 := Lib.hid (R0.next k2)
          clear R0 k2
          obtain ⟨hst3, hF3, hR3⟩ := HNW.out w2.drew (HR2.out.next (Keep.refl w2).drew) f
          have HF4 := Lib.hid hF3
          have HR4 := Lib.hid hR3
          clear hF3 hR3 HR2
          generalize hy : w2.drew = y at *
          have HY := Lib.hid hy
          clear hy
          go_wp2_with fail
          refine wp_region_ph (A := isMade) (C := Ph3 y (y.alloc (.cells (fc zeroF) 23)) ((y.alloc (.cells (fc zeroF) 23)).setRow y.heap.size (fc f))) (by kernel_rfl) (by kernel_rfl) (by kernel_rfl) HY.out ?_
          repeat (refine ph_quiet (by rfl) ?_; (first | go_big_quiet_step (fail) | quiet_step (fail)); refine wpQuiet_nil ?_)
          refine ph_same rfl V1.out (fun w => by go_simp) ?_
          simp only [Act.put, List.setIfInBounds_toArray, List.set_cons_zero, List.set_cons_succ]
          repeat (refine ph_quiet (by rfl) ?_; (first | go_big_quiet_step (fail) | quiet_step (fail)); refine wpQuiet_nil ?_)
          refine ph_same rfl V2.out (fun w => by go_simp) ?_
          simp only [Act.put, List.setIfInBounds_toArray, List.set_cons_zero, List.set_cons_succ]
          repeat (refine ph_quiet (by rfl) ?_; (first | go_big_quiet_step (fail) | quiet_step (fail)); refine wpQuiet_nil ?_)
          refine ph_same rfl V3.out (fun w => by go_simp) ?_
          simp only [Act.put, List.setIfInBounds_toArray, List.set_cons_zero, List.set_cons_succ]
          repeat (refine ph_quiet (by rfl) ?_; (first | go_big_quiet_step (fail) | quiet_step (fail)); refine wpQuiet_nil ?_)
          refine ph_same rfl V4.out (fun w => by go_simp) ?_
          simp only [Act.put, List.setIfInBounds_toArray, List.set_cons_zero, List.set_cons_succ]
          repeat (refine ph_quiet (by rfl) ?_; (first | go_big_quiet_step (fail) | quiet_step (fail)); refine wpQuiet_nil ?_)
          refine ph_build rfl 23 _ rfl _ rfl (.agg (fc f)) HB.out ?_
          simp only [Act.put, List.setIfInBounds_toArray, List.set_cons_zero, List.set_cons_succ]
          refine ph_make rfl rfl (.pointer (some ⟨y.heap.size, 0, none⟩)) (fun w => w.alloc (.cells (fc zeroF) 23)) (fun w hw => ?_) ?_
          · obtain rfl : w = y := hw
            refine ⟨?_, rfl⟩
            have hzz := HSZ.out zeroF
            generalize fc zeroF = Z at *
            go_simp
          simp only [Act.put, List.setIfInBounds_toArray, List.set_cons_zero, List.set_cons_succ]
          refine ph_write rfl rfl (fun w => w.setRow y.heap.size (fc f)) (fun w hw => ?_) ?_
          · obtain rfl : w = _ := hw
            refine ⟨?_, rfl⟩
            generalize fc f = C at *
            go_simp
          simp only [Act.put]
          refine ph_nil ?_
          intro w9 h9
          have h9' : w9 = (y.alloc (.cells (fc zeroF) 23)).setRow y.heap.size (fc f) := h9
          rw [← h9'] at HF4 HR4
          clear h9 h9' hst3
          have hl4 := HF4.out.whole HN.out
          go_wp2_with fail
          refine (HRi.out _).mono ?_
          rintro e w5 ⟨rfl, k5⟩
          have HR5 := Lib.hid (HR4.out.next k5)
          have hl5 := (HF4.out.keep k5).whole HN.out
          obtain ⟨hst6, hl6, hK6⟩ := HST.out _ HR5.out f
          have HK := Lib.hid hK6
          clear k5 HR4 HR5 HF4 hl4 hK6
          go_wp2
          refine bodyPost_ret (v := .tuple #[.agg (fc f), .int .i64 0]) ?_ rfl ⟨rfl, HK.out⟩
          simp [results, Try.results14, go_sem, hsz, hl6]
        · have er : readF l = (zeroF, 1) := by unfold readF; rw [if_neg c1, if_neg c2, if_neg (by simp [c3]), if_neg c4]
          rw [er]
          rw [decide_eq_false c4] at HRi
          clear hq c4 er c3 ho c2
          generalize frameF l ((l.take (l.length - 4)).drop 15) = f at *
          generalize l.take (l.length - 4) = t at *
          generalize (t.drop 1).take 4 = y1 at *
          generalize (t.drop 5).take 4 = y2 at *
          generalize (t.drop 9).take 2 = y3 at *
          generalize (t.drop 11).take 2 = y4 at *
          generalize t.drop 15 = y5 at *
          have hzf := HSZ.out f
          generalize numb l 13 2 = N at *
          generalize numb l 0 1 = n0 at *
          generalize numb l 1 4 = n1 at *
          generalize numb l 5 4 = n2 at *
          generalize numb l 9 2 = n3 at *
          generalize numb l 11 2 = n4 at *
          go_enter Try.func14, Try.ntmps14
          go_wp2_with fail
          refine (HV.out _).mono ?_
          rintro e w1 ⟨rfl, rfl⟩
          go_wp2_with fail
          refine (HOp.out _).mono ?_
          rintro e w2 ⟨rfl, k2⟩
          have HR2 := Lib.hid (R0.next k2)
          clear R0 k2
          obtain ⟨hst3, hF3, hR3⟩ := HNW.out w2.drew (HR2.out.next (Keep.refl w2).drew) f
          have HF4 := Lib.hid hF3
          have HR4 := Lib.hid hR3
          clear hF3 hR3 HR2
          generalize hy : w2.drew = y at *
          have HY := Lib.hid hy
          clear hy
          go_wp2_with fail
          refine wp_region_ph (A := isMade) (C := Ph3 y (y.alloc (.cells (fc zeroF) 23)) ((y.alloc (.cells (fc zeroF) 23)).setRow y.heap.size (fc f))) (by kernel_rfl) (by kernel_rfl) (by kernel_rfl) HY.out ?_
          repeat (refine ph_quiet (by rfl) ?_; (first | go_big_quiet_step (fail) | quiet_step (fail)); refine wpQuiet_nil ?_)
          refine ph_same rfl V1.out (fun w => by go_simp) ?_
          simp only [Act.put, List.setIfInBounds_toArray, List.set_cons_zero, List.set_cons_succ]
          repeat (refine ph_quiet (by rfl) ?_; (first | go_big_quiet_step (fail) | quiet_step (fail)); refine wpQuiet_nil ?_)
          refine ph_same rfl V2.out (fun w => by go_simp) ?_
          simp only [Act.put, List.setIfInBounds_toArray, List.set_cons_zero, List.set_cons_succ]
          repeat (refine ph_quiet (by rfl) ?_; (first | go_big_quiet_step (fail) | quiet_step (fail)); refine wpQuiet_nil ?_)
          refine ph_same rfl V3.out (fun w => by go_simp) ?_
          simp only [Act.put, List.setIfInBounds_toArray, List.set_cons_zero, List.set_cons_succ]
          repeat (refine ph_quiet (by rfl) ?_; (first | go_big_quiet_step (fail) | quiet_step (fail)); refine wpQuiet_nil ?_)
          refine ph_same rfl V4.out (fun w => by go_simp) ?_
          simp only [Act.put, List.setIfInBounds_toArray, List.set_cons_zero, List.set_cons_succ]
          repeat (refine ph_quiet (by rfl) ?_; (first | go_big_quiet_step (fail) | quiet_step (fail)); refine wpQuiet_nil ?_)
          refine ph_build rfl 23 _ rfl _ rfl (.agg (fc f)) HB.out ?_
          simp only [Act.put, List.setIfInBounds_toArray, List.set_cons_zero, List.set_cons_succ]
          refine ph_make rfl rfl (.pointer (some ⟨y.heap.size, 0, none⟩)) (fun w => w.alloc (.cells (fc zeroF) 23)) (fun w hw => ?_) ?_
          · obtain rfl : w = y := hw
            refine ⟨?_, rfl⟩
            have hzz := HSZ.out zeroF
            generalize fc zeroF = Z at *
            go_simp
          simp only [Act.put, List.setIfInBounds_toArray, List.set_cons_zero, List.set_cons_succ]
          refine ph_write rfl rfl (fun w => w.setRow y.heap.size (fc f)) (fun w hw => ?_) ?_
          · obtain rfl : w = _ := hw
            refine ⟨?_, rfl⟩
            generalize fc f = C at *
            go_simp
          simp only [Act.put]
          refine ph_nil ?_
          intro w9 h9
          have h9' : w9 = (y.alloc (.cells (fc zeroF) 23)).setRow y.heap.size (fc f) := h9
          rw [← h9'] at HF4 HR4
          clear h9 h9' hst3
          have hl4 := HF4.out.whole HN.out
          go_wp2_with fail
          refine (HRi.out _).mono ?_
          rintro e w5 ⟨rfl, k5⟩
          have HR5 := Lib.hid (HR4.out.next k5)
          have hl5 := (HF4.out.keep k5).whole HN.out
          obtain ⟨hst6, hl6, hK6⟩ := HST.out _ HR5.out zeroF
          have hzs := HSZ.out zeroF
          have HK := Lib.hid hK6
          clear k5 HR4 HR5 HF4 hl4 hK6
          go_wp2_with ((with_reducible refine at_build (t := 23) [] ?_ (.agg (fc zeroF)) ?_ ?_); rfl; exact HBZ.out _)
          refine bodyPost_ret (v := .tuple #[.agg (fc zeroF), .int .i64 1]) ?_ rfl ⟨rfl, HK.out⟩
          simp [results, Try.results14, go_sem, hsz, hl6]
      · have ho : K.openB l = ([], 5) := by
          rcases open_err l (by omega) with h5 | h5
          · rw [h5] at c3; simp at c3
          · exact h5
        have er : readF l = (zeroF, 5) := by unfold readF; rw [if_neg c1, if_neg c2, if_pos c3]
        rw [er]
        unfold openV at HOp
        rw [ho] at HOp
        clear er c3 ho c2
        generalize numb l 13 2 = N at *
        go_enter Try.func14, Try.ntmps14
        go_wp2_with fail
        refine (HV.out _).mono ?_
        rintro e w1 ⟨rfl, rfl⟩
        go_wp2_with fail
        refine (HOp.out _).mono ?_
        rintro e w2 ⟨rfl, k2⟩
        obtain ⟨hst6, hl6, hK6⟩ := HST.out _ (R0.next k2) zeroF
        have hzs := HSZ.out zeroF
        have HK := Lib.hid hK6
        clear R0 k2 hK6
        go_wp2_with ((with_reducible refine at_build (t := 23) [] ?_ (.agg (fc zeroF)) ?_ ?_); rfl; exact HBZ.out _)
        refine bodyPost_ret (v := .tuple #[.agg (fc zeroF), .int .i64 5]) ?_ rfl ⟨rfl, HK.out⟩
        simp [results, Try.results14, go_sem, hsz, hl6]
end Go.Proofs.Ytcdcnlaijbjonaa
