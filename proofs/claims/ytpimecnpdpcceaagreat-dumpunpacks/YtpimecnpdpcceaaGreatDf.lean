/- Proved: what dump's nextPrefix answers, and what becomes of memory. Condition: the reader's cells are known (Dr). -/
import Derived.Test.YtpimecnpdpcceaaGreatDe
namespace Go.Proofs.YtpimecnpdpcceaaGreat
open Go.RowKit

theorem cut_toU (s : List UInt8) (a : Nat) (ha : a ≤ s.length) (w : World) : (Instr.sliceAt 9 (.string ⟨s.toArray⟩) none (some (.int .u64 (a : Nat))) none).run Tryz.prog w = .ok (.string ⟨(s.take a).toArray⟩) w := by
  have hlen : (⟨s.toArray⟩ : ByteArray).size = s.length := by simp [ByteArray.size]
  have h5 := run_slice_string_h (P := Tryz.prog) w 9 ⟨s.toArray⟩ (by kernel_rfl) .u64 (a : Int) (by omega) (by rw [hlen]; omega)
  rw [Int.toNat_natCast, ext_mid, List.drop_zero, Nat.sub_zero] at h5
  exact (run_sliceAt_string (P := Tryz.prog) (w := w) 9 (.string ⟨s.toArray⟩) none (some (.int .u64 (a : Nat))) none (by kernel_rfl)).trans h5
theorem textF_short {l t r : List UInt8} {x : Int} (h : V.textF l 0 17 = (t, r, x)) : t.length ≤ 17 := by
  by_cases hx : x = 0
  · subst hx
    have := (Dm.textF_back h).2
    omega
  · unfold V.textF at h
    generalize V.uintF l 0 = u at h
    obtain ⟨v, l1, x1⟩ := u
    simp only at h
    split at h
    · simp only [Prod.mk.injEq] at h
      rw [← h.1]
      simp
    · split at h
      · simp only [Prod.mk.injEq] at h
        rw [← h.1]
        simp
      · unfold V.rawF at h
        split at h
        · simp only [Prod.mk.injEq] at h
          rw [← h.1]
          simp
        · split at h
          · simp only [Prod.mk.injEq] at h
            rw [← h.1]
            simp
          · split at h
            · simp only [Prod.mk.injEq] at h
              rw [← h.1]
              simp
            · simp only [Prod.mk.injEq] at h
              exact absurd h.2.2.symm hx

def nextW (w : World) (b g : Nat) (c : List UInt8) (p : Px) : World := (w.setCell ⟨b, 1, none⟩ (.string ⟨c.toArray⟩)).drew.setRow b (dr g c p)
theorem Dr.next {w : World} {b g : Nat} {s last c : List UInt8} {P p : Px} (h : Dr w b g s last P) (hp : L16 p) (hc : c.length ≤ 17) : Dr (nextW w b g c p) b g s c p ∧ Only b w (nextW w b g c p) := by
  have hbU : (w.setCell ⟨b, 1, none⟩ (.string ⟨c.toArray⟩)).drew.heap[b]? = some (.cells (dr g c P) 57 (0, 0)) := by
    have := block_set h.block 1 (.string ⟨c.toArray⟩)
    rwa [dr_set1] at this
  have o1 : Only b w (w.setCell ⟨b, 1, none⟩ (.string ⟨c.toArray⟩)).drew := (Only.setCell b 1 w _).drewNew
  have o2 : Only b w (nextW w b g c p) := o1.trans (bo (Bit.Only.setRow b _ _))
  exact ⟨⟨block_row hbU _, h.rd.other o2 (Ne.symm h.ne) h.rd.lt, h.ne, hp, hc⟩, o2⟩

set_option maxRecDepth 100000 in
set_option maxHeartbeats 4000000 in
theorem dpref (b g : Nat) (s last : List UInt8) (P : Px) (w : World) (h : Dr w b g s last P) : Calls Tryz.prog 82 #[.pointer (some ⟨b, 0, none⟩)] w (PrefPost b g w (prefF (prevOf last P) last s)) := by
  obtain ⟨R, hR⟩ : ∃ R, R = prefF (prevOf last P) last s := ⟨_, rfl⟩
  rw [← hR]
  obtain ⟨hz, hi⟩ := zero_of_info info24b
  obtain ⟨n, hn⟩ : ∃ n, n = 18 := ⟨18, rfl⟩
  have hsz : ∀ w, (Go.sizeOf 41).run Tryz.prog w = .ok n w := fun w => by rw [hn]; exact Tryz.sizeOf41 w
  have hn0 : ¬ n = 0 := by omega
  have hpn : ∀ p : Px, L16 p → (pc p).size = n := fun p hp => by rw [hn]; exact pc_size p hp
  have hpz : (pc zeroP).size = n := hpn zeroP rfl
  have HN := Lib.hid hn
  have HPN := Lib.hid hpn
  have HBZ := Lib.hid build_zeroP
  have hlast : (⟨last.toArray⟩ : ByteArray).size = last.length := by simp [ByteArray.size]
  have hl17 := h.short
  have hbg := h.ne
  obtain ⟨hblt, hglt⟩ := h.lt
  obtain ⟨hA, hS⟩ := one_at w zeroP zeroP_len
  have HA0 := Lib.hid hA
  have HT0 := Lib.hid (show Two b g w (w.alloc (.cells (pc zeroP) 41)) from Two.keep hS.keep)
  have HD0 := Lib.hid (h.keep hS.keep)
  have c1 := HD0.out.c1
  have hn1 := dnum b g (last.length + 1) 4 s _ HD0.out.c0 hbg HD0.out.rd (by omega)
  unfold prefF at hR
  unfold NumPost7 numF at hn1
  have hulen := V.uintF_len s 0
  generalize V.uintF s 0 = c at hR hn1 hulen
  obtain ⟨k, s1, x1⟩ := c
  simp only at hR hn1 hulen
  have HR := Lib.hid hR
  have HN1 := Lib.hid hn1
  rw [show ((last.length + 1 : Nat) : Int) = (last.length : Int) + 1 by omega] at HN1
  clear hR hn1 hn hA hS h hpn
  go_enter Tryz.func82, Tryz.ntmps82
  go_wp2_with fail
  refine HN1.out.mono ?_
  rintro e w1 ⟨rfl, r1, o1⟩
  have HA1 := Lib.hid (HA0.out.only o1 (by omega))
  have HT1 := Lib.hid (HT0.out.trans (Two.right o1))
  by_cases hx1 : x1 = 0
  · have HR1 := Lib.hid (show R = _ from by rw [HR.out, if_neg (by simp [hx1])])
    have HRD := Lib.hid (show Rd w1 g s1 0 from by rw [← hx1]; exact r1)
    have HD1 := Lib.hid (HD0.out.num o1 HRD.out)
    rw [if_neg (by simp [hx1])]
    by_cases hk : last.length < k
    · rw [if_pos (by omega)]
      have HR2 := Lib.hid (show R = .error 4 from by rw [HR1.out, if_pos hk])
      clear r1 o1 c1 HR HR1 HN1
      have hstE := HA1.out.store zeroP rfl
      have hldE := (HA1.out.put zeroP rfl).whole HN.out
      go_wp2_with (first | (refine at_build [] rfl _ (HBZ.out _) ?_) | fail)
      rw [HR2.out]
      refine bodyPost_ret (v := .tuple #[.agg (pc zeroP), .int .i64 (4)]) ?_ rfl (show PrefPost b g w (.error (4)) _ _ from ⟨rfl, by decide, HT1.out.rowNew _ _ (Nat.le_refl _)⟩)
      simp [results, Tryz.results82, go_sem, hsz, hldE]
    · rw [if_neg (by omega)]
      have HR2 := Lib.hid (show R = _ from by rw [HR1.out, if_neg hk])
      have htx := text_at g s1 0 17 w1 HRD.out (by decide)
      have hR2 := HR2.out
      generalize hte : V.textF s1 0 17 = c at hR2 htx
      obtain ⟨t, s2, x2⟩ := c
      have ht17 := textF_short hte
      simp only at hR2 htx
      have HR3 := Lib.hid hR2
      have HTX := Lib.hid htx
      have d0 := HD1.out.c0
      have hkl : k ≤ last.length := by omega
      clear r1 o1 c1 HR HR1 HR2 hR2 htx hte HN1 HD0 HA0 HT0
      go_wp2_with fail
      refine HTX.out.mono ?_
      rintro e w2 ⟨rfl, r2, o2⟩
      have HA2 := Lib.hid (HA1.out.only o2 (by omega))
      have HT2 := Lib.hid (HT1.out.trans (Two.right o2))
      have HE2 := Lib.hid (err_rd g s2 x2 w2 r2)
      have HR2' := Lib.hid r2
      have HO2 := Lib.hid o2
      have e0 : w2.cell? ⟨b, 0, none⟩ = some (.pointer (some ⟨g, 0, none⟩)) := (o2.cell (p := ⟨b, 0, none⟩) HD1.out.lt.1 hbg).trans d0
      clear r2 o2 d0 HTX HA1 HT1
      go_wp2_with fail
      refine HE2.out.mono ?_
      rintro e w2 ⟨rfl, rfl⟩
      by_cases hx2 : x2 = 0
      · have hx2b : (x2 != 0) = false := by simp [hx2]
        have HRD2 := Lib.hid (show Rd w2 g s2 0 from by rw [← hx2]; exact HR2'.out)
        have HD2 := Lib.hid (HD1.out.num HO2.out HRD2.out)
        have HR4 := Lib.hid (show R = _ from by rw [HR3.out, if_neg (by simp [hx2])])
        have c1 := HD2.out.c1
        have hcut := cut_toU last k hkl
        have hcat := Bit.app_list (last.take k) t
        have hts : (⟨t.toArray⟩ : ByteArray).size = t.length := by simp [ByteArray.size]
        have htks : (⟨(last.take k).toArray⟩ : ByteArray).size = (last.take k).length := by simp [ByteArray.size]
        have htkl : (last.take k).length ≤ 17 := by rw [List.length_take]; omega
        have HCL := Lib.hid (show (last.take k ++ t).length ≤ 34 from by rw [List.length_append, List.length_take]; omega)
        have hR4 := HR4.out
        generalize last.take k ++ t = c at hcat hR4 HCL
        have HWh := Lib.hid (dwhole c (by have := HCL.out; omega))
        have HWL := Lib.hid (wholeV_len c)
        have HCm := Lib.hid (dcommon last c (by omega) (by have := HCL.out; omega))
        have HR5 := Lib.hid hR4
        generalize last.take k = tk at hcut hcat htks htkl
        clear hR4 HR3 HR4 HE2 HR2' HO2 HD1 HRD
        go_wp2_with fail
        refine (HWh.out _).mono ?_
        rintro e w3 ⟨rfl, b3⟩
        have HA3 := Lib.hid (show At w3 w.heap.size zeroP from ⟨b3.obj HA2.out.block, rfl⟩)
        have HT3 := Lib.hid (HT2.out.trans (Two.keep b3))
        have HD3 := Lib.hid (HD2.out.keep b3)
        have hw3 : w.heap.size < w3.heap.size := block_lt HA3.out.block
        obtain ⟨hB, hSB⟩ := one_at w3 zeroP zeroP_len
        have HB := Lib.hid hB
        have HSB := Lib.hid hSB.keep
        clear b3 c1 hB hSB HA2 HT2 HD2 HRD2 HWh
        cases hw : wholeP c with
        | none =>
          have hv : wholeV c = (zeroP, 4) := by unfold wholeV; rw [hw]
          have HR6 := Lib.hid (show R = .error 4 from by rw [HR5.out, hw])
          rw [hv]
          have hst := HB.out.store zeroP rfl
          have HK4 := Lib.hid (HSB.out.setRow w3.heap.size (pc zeroP) (Nat.le_refl _))
          have HA4 := Lib.hid (show At _ w.heap.size zeroP from ⟨HK4.out.obj HA3.out.block, rfl⟩)
          have HT4 := Lib.hid (HT3.out.trans (Two.keep HK4.out))
          clear hv hw HR5
          have hstE := HA4.out.store zeroP rfl
          have hldE := (HA4.out.put zeroP rfl).whole HN.out
          go_wp2_with (first | (refine at_build [] rfl _ (HBZ.out _) ?_) | fail)
          rw [HR6.out]
          refine bodyPost_ret (v := .tuple #[.agg (pc zeroP), .int .i64 (4)]) ?_ rfl (show PrefPost b g w (.error (4)) _ _ from ⟨rfl, by decide, HT4.out.rowNew _ _ (Nat.le_refl _)⟩)
          simp [results, Tryz.results82, go_sem, hsz, hldE]
        | some p =>
          have hv : wholeV c = (p, 0) := by unfold wholeV; rw [hw]
          obtain ⟨hpr, hp16, hcb⟩ := whole_some hw
          have hcne : c ≠ [] := by rw [hcb]; unfold bytesL; simp
          have hc17 : c.length ≤ 17 := by rw [hcb]; exact bytesL_len p hpr hp16
          have HR6 := Lib.hid (show R = _ from by rw [HR5.out, hw])
          rw [hv]
          have hpp : (pc p).size = n := HPN.out p hp16
          have hst := HB.out.store p hp16
          have HP := Lib.hid (HB.out.put p hp16)
          have HK4 := Lib.hid (HSB.out.setRow w3.heap.size (pc p) (Nat.le_refl _))
          have HA4 := Lib.hid (show At ((w3.alloc (.cells (pc zeroP) 41)).setRow w3.heap.size (pc p)) w.heap.size zeroP from ⟨HK4.out.obj HA3.out.block, rfl⟩)
          have HT4 := Lib.hid (HT3.out.trans (Two.keep HK4.out))
          have HD4 := Lib.hid (HD3.out.keep HK4.out)
          have c1 := HD4.out.c1
          have HCN := Lib.hid hcne
          clear hv hw HR5 hcb hcne HB HSB HA3 HT3
          go_wp2_with fail
          refine (HCm.out _).mono ?_
          rintro e w5 ⟨rfl, b5⟩
          have HP5 := Lib.hid (show At w5 w3.heap.size p from ⟨b5.obj HP.out.block, hp16⟩)
          have HA5 := Lib.hid (show At w5 w.heap.size zeroP from ⟨b5.obj HA4.out.block, rfl⟩)
          have HT5 := Lib.hid (HT4.out.trans (Two.keep b5))
          have HD5 := Lib.hid (HD4.out.keep b5)
          clear b5 c1 hst HP HA4 HT4 HD4 HK4 HCm
          have hR6 := HR6.out
          have hcml := (Dm.com_le last c).1
          generalize Dm.com last c = C at hR6 hcml ⊢
          have HR7 := Lib.hid hR6
          clear hR6 HR6
          by_cases hck : C = k
          · subst hck
            have HR8 := Lib.hid (show R = _ from by rw [HR7.out, if_neg (by simp)])
            have HPl := Lib.hid HD5.out.len
            have e1 : ∀ u : KW w5, u.1.cell? ⟨b, 1, none⟩ = some (.string ⟨last.toArray⟩) := fun u => (HD5.out.keep u.2).c1
            have e2 : ∀ u : KW w5, (loadCellsFrom ⟨b, 2, none⟩ 0 n #[]).run Tryz.prog u.1 = .ok (pc P) u.1 := fun u => dr_load HPl.out (HD5.out.keep u.2).block HN.out
            have e3 : ∀ u : KW w5, (loadCellsFrom ⟨w3.heap.size, 0, none⟩ 0 n #[]).run Tryz.prog u.1 = .ok (pc p) u.1 := fun u => (show At u.1 w3.heap.size p from ⟨u.2.obj HP5.out.block, hp16⟩).whole HN.out
            have HCP := Lib.hid (compare P p HPl.out hp16).keep
            by_cases hl0 : last = []
            · have g0 : ((⟨last.toArray⟩ : ByteArray) == ⟨#[]⟩) = true := by rw [hl0]; rfl
              have g1 : ((⟨last.toArray⟩ : ByteArray) != ⟨#[]⟩) = false := by rw [hl0]; rfl
              go_wp2_with fail
              refine wp_region_keep (Keep.refl w5) (by kernel_rfl) (by kernel_rfl) ?_
              repeat (first | go_big_quiet_step (exact HCP.out.at _) | quiet_step (exact HCP.out.at _))
              refine wpQuiet_nil ?_
              rintro w6 ⟨⟨w7, b6⟩, rfl⟩
              have HK6 := Lib.hid b6
              have HP6 := Lib.hid (show At w6 w3.heap.size p from ⟨HK6.out.obj HP5.out.block, hp16⟩)
              have HA6 := Lib.hid (show At w6 w.heap.size zeroP from ⟨HK6.out.obj HA5.out.block, rfl⟩)
              have HT6 := Lib.hid (HT5.out.trans (Two.keep HK6.out))
              have HD6 := Lib.hid (HD5.out.keep HK6.out)
              have HRE := Lib.hid (show R = .ok (p, c, s2) from by rw [HR8.out, if_neg (by simp [Dm.behind, prevOf, hl0])])
              have f1 : (loadCellsFrom ⟨w3.heap.size, 0, none⟩ 0 n #[]).run Tryz.prog w6.drew = .ok (pc p) w6.drew := (show At w6.drew w3.heap.size p from ⟨HP6.out.block, hp16⟩).whole HN.out
              have f1' : (loadCellsFrom ⟨w3.heap.size, 0, none⟩ 0 n #[]).run Tryz.prog (w6.setCell ⟨b, 1, none⟩ (.string ⟨c.toArray⟩)).drew = .ok (pc p) (w6.setCell ⟨b, 1, none⟩ (.string ⟨c.toArray⟩)).drew := (show At (w6.setCell ⟨b, 1, none⟩ (.string ⟨c.toArray⟩)).drew w3.heap.size p from ⟨setCell_old HP6.out.block b 1 _ (by omega), hp16⟩).whole HN.out
              have f2 := HD6.out.c1
              have f3 : w6.frozen? ⟨b, 1, none⟩ = false := by simp [World.frozen?, HD6.out.block]
              have hbU : (w6.setCell ⟨b, 1, none⟩ (.string ⟨c.toArray⟩)).drew.heap[b]? = some (.cells (dr g c P) 57 (0, 0)) := by
                have := block_set HD6.out.block 1 (.string ⟨c.toArray⟩)
                rwa [dr_set1] at this
              have f4 := dr_store HPl.out hbU p hp16
              clear e1 e2 e3
              go_wp2
              go_region
              obtain ⟨hDn, hOn⟩ := HD6.out.next (p := p) hp16 hc17
              have hP8 := hOn.obj HP6.out.block (by omega)
              have hA8 : At (nextW w6 b g c p) w.heap.size zeroP := ⟨hOn.obj HA6.out.block (by omega), rfl⟩
              have f5 := (show At (nextW w6 b g c p) w3.heap.size p from ⟨hP8, hp16⟩).whole HN.out
              have f6 := hA8.store p hp16
              have f7 := (hA8.put p hp16).whole HN.out
              have HDn := Lib.hid (show Dr ((nextW w6 b g c p).setRow w.heap.size (pc p)) b g s2 c p from ⟨setRow_old hDn.block _ _ (by omega), hDn.rd.row _ _ (by omega), hDn.ne, hDn.len, hDn.short⟩)
              have HTn := Lib.hid ((HT6.out.trans (Two.left hOn)).rowNew w.heap.size (pc p) (Nat.le_refl _))
              clear hDn hOn hP8 hA8 f1 f1' f2 f3 f4 hbU
              unfold nextW at f5 f6 f7 HDn HTn
              go_wp2
              rw [HRE.out]
              refine bodyPost_ret (v := .tuple #[.agg (pc p), .int .i64 0]) ?_ rfl (show PrefPost b g w (.ok (p, c, s2)) _ _ from ⟨rfl, hp16, HCN.out, HDn.out, HTn.out⟩)
              simp [results, Tryz.results82, go_sem, hsz, f7]
            · have g0 : ((⟨last.toArray⟩ : ByteArray) == ⟨#[]⟩) = false := by
                rw [Bool.eq_false_iff]
                intro h
                rw [MapKept.bytes_beq] at h
                simp at h
                exact hl0 h
              have g1 : ((⟨last.toArray⟩ : ByteArray) != ⟨#[]⟩) = true := by rw [bne, g0]; rfl
              have g2 : last.isEmpty = false := by cases last <;> simp_all
              by_cases hcp : 0 ≤ cmpP P p
              · go_wp2_with fail
                refine wp_region_keep (Keep.refl w5) (by kernel_rfl) (by kernel_rfl) ?_
                repeat (first | go_big_quiet_step (exact HCP.out.at _) | quiet_step (exact HCP.out.at _))
                refine wpQuiet_nil ?_
                rintro w6 ⟨⟨w7, b6⟩, rfl⟩
                have HK6 := Lib.hid b6
                have HA6 := Lib.hid (show At w6 w.heap.size zeroP from ⟨HK6.out.obj HA5.out.block, rfl⟩)
                have HT6 := Lib.hid (HT5.out.trans (Two.keep HK6.out))
                have HRE := Lib.hid (show R = .error 6 from by rw [HR8.out, if_pos (by simp [Dm.behind, prevOf, hl0, codP]; omega)])
                clear e1 e2 e3
                have hstE := HA6.out.store zeroP rfl
                have hldE := (HA6.out.put zeroP rfl).whole HN.out
                go_wp2_with (first | (refine at_build [] rfl _ (HBZ.out _) ?_) | fail)
                rw [HRE.out]
                refine bodyPost_ret (v := .tuple #[.agg (pc zeroP), .int .i64 (6)]) ?_ rfl (show PrefPost b g w (.error (6)) _ _ from ⟨rfl, by decide, HT6.out.rowNew _ _ (Nat.le_refl _)⟩)
                simp [results, Tryz.results82, go_sem, hsz, hldE]
              · go_wp2_with fail
                refine wp_region_keep (Keep.refl w5) (by kernel_rfl) (by kernel_rfl) ?_
                repeat (first | go_big_quiet_step (exact HCP.out.at _) | quiet_step (exact HCP.out.at _))
                refine wpQuiet_nil ?_
                rintro w6 ⟨⟨w7, b6⟩, rfl⟩
                have HK6 := Lib.hid b6
                have HP6 := Lib.hid (show At w6 w3.heap.size p from ⟨HK6.out.obj HP5.out.block, hp16⟩)
                have HA6 := Lib.hid (show At w6 w.heap.size zeroP from ⟨HK6.out.obj HA5.out.block, rfl⟩)
                have HT6 := Lib.hid (HT5.out.trans (Two.keep HK6.out))
                have HD6 := Lib.hid (HD5.out.keep HK6.out)
                have HRE := Lib.hid (show R = .ok (p, c, s2) from by rw [HR8.out, if_neg (by simp [Dm.behind, prevOf, hl0, codP]; omega)])
                have f1 : (loadCellsFrom ⟨w3.heap.size, 0, none⟩ 0 n #[]).run Tryz.prog w6.drew = .ok (pc p) w6.drew := (show At w6.drew w3.heap.size p from ⟨HP6.out.block, hp16⟩).whole HN.out
                have f1' : (loadCellsFrom ⟨w3.heap.size, 0, none⟩ 0 n #[]).run Tryz.prog (w6.setCell ⟨b, 1, none⟩ (.string ⟨c.toArray⟩)).drew = .ok (pc p) (w6.setCell ⟨b, 1, none⟩ (.string ⟨c.toArray⟩)).drew := (show At (w6.setCell ⟨b, 1, none⟩ (.string ⟨c.toArray⟩)).drew w3.heap.size p from ⟨setCell_old HP6.out.block b 1 _ (by omega), hp16⟩).whole HN.out
                have f2 := HD6.out.c1
                have f3 : w6.frozen? ⟨b, 1, none⟩ = false := by simp [World.frozen?, HD6.out.block]
                have hbU : (w6.setCell ⟨b, 1, none⟩ (.string ⟨c.toArray⟩)).drew.heap[b]? = some (.cells (dr g c P) 57 (0, 0)) := by
                  have := block_set HD6.out.block 1 (.string ⟨c.toArray⟩)
                  rwa [dr_set1] at this
                have f4 := dr_store HPl.out hbU p hp16
                clear e1 e2 e3
                go_wp2
                go_region
                obtain ⟨hDn, hOn⟩ := HD6.out.next (p := p) hp16 hc17
                have hP8 := hOn.obj HP6.out.block (by omega)
                have hA8 : At (nextW w6 b g c p) w.heap.size zeroP := ⟨hOn.obj HA6.out.block (by omega), rfl⟩
                have f5 := (show At (nextW w6 b g c p) w3.heap.size p from ⟨hP8, hp16⟩).whole HN.out
                have f6 := hA8.store p hp16
                have f7 := (hA8.put p hp16).whole HN.out
                have HDn := Lib.hid (show Dr ((nextW w6 b g c p).setRow w.heap.size (pc p)) b g s2 c p from ⟨setRow_old hDn.block _ _ (by omega), hDn.rd.row _ _ (by omega), hDn.ne, hDn.len, hDn.short⟩)
                have HTn := Lib.hid ((HT6.out.trans (Two.left hOn)).rowNew w.heap.size (pc p) (Nat.le_refl _))
                clear hDn hOn hP8 hA8 f1 f1' f2 f3 f4 hbU
                unfold nextW at f5 f6 f7 HDn HTn
                go_wp2
                rw [HRE.out]
                refine bodyPost_ret (v := .tuple #[.agg (pc p), .int .i64 0]) ?_ rfl (show PrefPost b g w (.ok (p, c, s2)) _ _ from ⟨rfl, hp16, HCN.out, HDn.out, HTn.out⟩)
                simp [results, Tryz.results82, go_sem, hsz, f7]
          · have hcki : ¬ (C : Int) = k := by omega
            have HR8 := Lib.hid (show R = .error 4 from by rw [HR7.out, if_pos hck])
            have hstE := HA5.out.store zeroP rfl
            have hldE := (HA5.out.put zeroP rfl).whole HN.out
            go_wp2_with (first | (refine at_build [] rfl _ (HBZ.out _) ?_) | fail)
            rw [HR8.out]
            refine bodyPost_ret (v := .tuple #[.agg (pc zeroP), .int .i64 (4)]) ?_ rfl (show PrefPost b g w (.error (4)) _ _ from ⟨rfl, by decide, HT5.out.rowNew _ _ (Nat.le_refl _)⟩)
            simp [results, Tryz.results82, go_sem, hsz, hldE]
      · have hx2b : (x2 != 0) = true := by simpa using hx2
        have HR4 := Lib.hid (show R = .error x2 from by rw [HR3.out, if_pos hx2])
        clear HR3
        have hstE := HA2.out.store zeroP rfl
        have hldE := (HA2.out.put zeroP rfl).whole HN.out
        go_wp2_with (first | (refine at_build [] rfl _ (HBZ.out _) ?_) | fail)
        rw [HR4.out]
        refine bodyPost_ret (v := .tuple #[.agg (pc zeroP), .int .i64 (x2)]) ?_ rfl (show PrefPost b g w (.error (x2)) _ _ from ⟨rfl, hx2, HT2.out.rowNew _ _ (Nat.le_refl _)⟩)
        simp [results, Tryz.results82, go_sem, hsz, hldE]
  · have HR1 := Lib.hid (show R = .error x1 from by rw [HR.out, if_pos hx1])
    have hx1b : (x1 != 0) = true := by simpa using hx1
    rw [if_pos hx1]
    clear r1 o1 c1 HR HN1
    have hstE := HA1.out.store zeroP rfl
    have hldE := (HA1.out.put zeroP rfl).whole HN.out
    go_wp2_with (first | (refine at_build [] rfl _ (HBZ.out _) ?_) | fail)
    rw [HR1.out]
    refine bodyPost_ret (v := .tuple #[.agg (pc zeroP), .int .i64 (x1)]) ?_ rfl (show PrefPost b g w (.error (x1)) _ _ from ⟨rfl, hx1, HT1.out.rowNew _ _ (Nat.le_refl _)⟩)
    simp [results, Tryz.results82, go_sem, hsz, hldE]
end Go.Proofs.YtpimecnpdpcceaaGreat
