/- Proved: what the document's Read of layer 7 answers. Condition: the text has at most 10^6 bytes. -/
import Derived.Test.YtpimecnpdpcceaaGreatQw
import Derived.Test.YtpimecnpdpcceaaGreatDh
import Derived.Test.YtpimecnpdpcceaaGreatMp1
namespace Go.Proofs.YtpimecnpdpcceaaGreat
open Go.RowKit

/-- The prefix of the last one. -/
def prevT (T : List (Dm.Rw Px)) : Option Px := (T.getLast?).map (·.p)
theorem prevT_snoc (T : List (Dm.Rw Px)) (x : Dm.Rw Px) : prevT (T ++ [x]) = some x.p := by simp [prevT]
theorem cut_toQ (s : List UInt8) (a : Nat) (ha : a ≤ s.length) (w : World) : (Instr.sliceAt 9 (.string ⟨s.toArray⟩) none (some (.int .i64 (a : Nat))) none).run Tryz.prog w = .ok (.string ⟨(s.take a).toArray⟩) w := by
  have hlen : (⟨s.toArray⟩ : ByteArray).size = s.length := by simp [ByteArray.size]
  have h5 := run_slice_string_h (P := Tryz.prog) w 9 ⟨s.toArray⟩ (by kernel_rfl) .i64 (a : Int) (by omega) (by rw [hlen]; omega)
  rw [Int.toNat_natCast, ext_mid, List.drop_zero, Nat.sub_zero] at h5
  exact (run_sliceAt_string (P := Tryz.prog) (w := w) 9 (.string ⟨s.toArray⟩) none (some (.int .i64 (a : Nat))) none (by kernel_rfl)).trans h5
def QrRel (w : World) (N : Nat) (r0 : Except Int (List (Dm.Rw Px) × List UInt8)) (ov lv iv : Value) (wr : World) : Prop :=
  ∃ (T : List (Dm.Rw Px)) (last s : List UInt8), iv = .int .u64 (T.length : Nat) ∧ lv = .string ⟨last.toArray⟩ ∧ last.length ≤ 17 ∧ T.length ≤ N ∧ (∀ x ∈ T, L16 x.p) ∧ r0 = preR T (Dm.readN codP (N - T.length) (prevT T) last s) ∧ Own 44 20 rl (w.heap.size + 1) wr ov (T.map rtOf) ∧ Rd wr w.heap.size s 0 ∧ Keep w wr
def QrPost (w : World) (r : Except Int (List (Dm.Rw Px))) (e : Ending) (w' : World) : Prop := match r with
  | .error x => e = .returned (.tuple #[.slice none 0 0, .int .i64 x]) ∧ x ≠ 0 ∧ Keep w w'
  | .ok l => ∃ v, e = .returned (.tuple #[v, .int .i64 0]) ∧ Row rl 44 w' v (l.map rtOf) ∧ Keep w w'
theorem Rd_app7 {α : Type} {t k : Nat} {enc : α → List Value} {B b : Nat} {l : List UInt8} {x : Int} {w w' : World} {v : Value} {m : List α} (h : Rd w b l x) (ho : Own t k enc B w v m) (hb : b < B) (hgr : w.grownBy w' v.ownBlock) : Rd w' b l x := by
  have hb2 : w'.heap[b]? = w.heap[b]? := hgr.block b h.lt fun e => by
    have := (World.ownsRow.lt ho b e.symm).1
    omega
  exact ⟨(World.cell?_of_block (a := ⟨b, 0, none⟩) hb2).trans h.rest, (World.cell?_of_block (a := ⟨b, 1, none⟩) hb2).trans h.err, (World.frozen?_of_block (a := ⟨b, 0, none⟩) hb2).trans h.free0, (World.frozen?_of_block (a := ⟨b, 1, none⟩) hb2).trans h.free1, h.len⟩

set_option maxRecDepth 100000 in
set_option maxHeartbeats 8000000 in
theorem qread (s : List UInt8) (hs : s.length ≤ 1000000) (w : World) : Calls Tryz.prog 8 #[.string ⟨s.toArray⟩] w (QrPost w (Dm.readD codP s)) := by
  obtain ⟨R, hR⟩ : ∃ R, R = Dm.readD codP s := ⟨_, rfl⟩
  rw [← hR]
  rw [readD_eq] at hR
  obtain ⟨r0, hr0⟩ : ∃ r0, r0 = routesF s := ⟨_, rfl⟩
  rw [← hr0] at hR
  have HDE := Lib.hid (fun x (h : r0 = .error x) => show R = .error x from by rw [hR, h])
  have HDO := Lib.hid (fun l s2 (h : r0 = .ok (l, s2)) => show R = (if s2 = [] then .ok l else .error 4) from by rw [hR, h])
  unfold routesF at hr0
  have HBD := Lib.hid (build_qr ⟨s.toArray⟩)
  have HRd0 := Lib.hid (qr_new w s (by unfold maxLen; omega))
  have HKW0 := Lib.hid (show Keep w (w.alloc (.cells #[.string ⟨s.toArray⟩, .int .i64 0] 63)) from (Keep.refl _).alloc _)
  have hu := quint_at w.heap.size s 0 _ HRd0.out
  generalize V.uintF s 0 = c at hr0 hu
  obtain ⟨N, s1, x1⟩ := c
  simp only at hr0 hu
  have HU := Lib.hid hu
  have HR0 := Lib.hid hr0
  obtain ⟨hz2, hi2⟩ := zero_of_info info24b
  obtain ⟨n, hn⟩ : ∃ n, n = 20 := ⟨20, rfl⟩
  have hsz : ∀ w, (Go.sizeOf 44).run Tryz.prog w = .ok n w := fun w => by rw [hn]; exact Tryz.sizeOf44 w
  have hn0 : ¬ n = 0 := by omega
  obtain ⟨n2, hn2⟩ : ∃ n, n = 18 := ⟨18, rfl⟩
  have hsz2 : ∀ w, (Go.sizeOf 41).run Tryz.prog w = .ok n2 w := fun w => by rw [hn2]; exact Tryz.sizeOf41 w
  have hn20 : ¬ n2 = 0 := by omega
  have hpz : (pc zeroP).size = n2 := by rw [hn2]; exact pc_size zeroP rfl
  have HPN := Lib.hid (fun (p : Px) (hp : L16 p) => show (pc p).size = n2 from by rw [hn2]; exact pc_size p hp)
  have HN := Lib.hid hn
  have HN2 := Lib.hid hn2
  clear hR hr0 hu hn hn2
  go_enter Tryz.func8, Tryz.ntmps8
  go_wp2_with (first | (refine at_build [(0, .string ⟨s.toArray⟩)] rfl _ (HBD.out _) ?_) | fail)
  refine HU.out.mono ?_
  rintro e w1 ⟨rfl, r1, o1⟩
  have HRd1 := Lib.hid r1
  have HKW1 := Lib.hid (Only.made HKW0.out o1 (Nat.le_refl _))
  have e1 := r1.err
  clear r1 o1 HU
  by_cases hx1 : x1 = 0
  · have hx1b : (x1 != 0) = false := by simp [hx1]
    have hr1 := HR0.out
    rw [if_neg (by simp [hx1])] at hr1
    by_cases hbig : 300 < N
    · have hbi : (N : Int) > 300 := by omega
      have HRX := Lib.hid (HDE.out 7 (by rw [hr1, if_pos hbig]))
      go_wp2
      go_ret2
      rw [HRX.out]
      exact ⟨rfl, by decide, HKW1.out⟩
    · have hbi : ¬ (N : Int) > 300 := by omega
      rw [if_neg hbig] at hr1
      have HR1 := Lib.hid hr1
      have HRd1' := Lib.hid (show Rd w1 w.heap.size s1 0 from by rw [← hx1]; exact HRd1.out)
      clear hr1 HR0 HRd0 HKW0 HRd1
      go_wp2
      go_loopw [6, 7, 8] (fun ov lv iv wr => QrRel w N r0 ov lv iv wr) (fun _ _ iv _ => N - (intOf iv).toNat)
      case atStart => exact ⟨[], [], s1, rfl, rfl, by simp, Nat.zero_le _, by simp, by rw [HR1.out, preR_nil]; rfl, Own.nil _ _, HRd1'.out, HKW1.out⟩
      case round =>
        obtain ⟨T, last, s', rfl, rfl, hl17, hTN, hT16, heq, hown, hrd, hw⟩ := hrel
        have HEQ := Lib.hid heq
        have HO := Lib.hid hown
        have HRr := Lib.hid hrd
        have HKWr := Lib.hid hw
        have HT16 := Lib.hid hT16
        have hlast : (⟨last.toArray⟩ : ByteArray).size = last.length := by simp [ByteArray.size]
        clear heq hown hrd hw hT16 e1
        generalize hTl : T.length = J at *
        have HTL := Lib.hid hTl
        clear hTl
        by_cases hlt : J < N
        · have hlti : (J : Int) < N := by omega
          obtain ⟨K, hK⟩ : ∃ K, N - J = K + 1 := ⟨N - J - 1, by omega⟩
          have heq := HEQ.out
          rw [hK] at heq
          have HOE := Lib.hid (fun x (hx : Dm.readOne codP (prevT T) last s' = .error x) => HDE.out x (by rw [heq, readN_err hx]; rfl))
          have HOO := Lib.hid (fun x c s2 (hx : Dm.readOne codP (prevT T) last s' = .ok (x, c, s2)) => show r0 = preR (T ++ [x]) (Dm.readN codP K (some x.p) c s2) from by rw [heq, readN_ok hx])
          have HKK := Lib.hid hK
          obtain ⟨rr, hrr⟩ : ∃ rr, rr = Dm.readOne codP (prevT T) last s' := ⟨_, rfl⟩
          rw [← hrr] at HOE HOO
          unfold Dm.readOne at hrr
          rw [show codP.whole = wholeP from rfl] at hrr
          have hu2 := quint_at w.heap.size s' 0 wr HRr.out
          generalize V.uintF s' 0 = c at hrr hu2
          obtain ⟨k, sa, xa⟩ := c
          simp only at hrr hu2
          have HU2 := Lib.hid hu2
          have HA1 := Lib.hid hrr
          clear heq hK hrr hu2 HEQ
          go_wp2_with fail
          refine HU2.out.mono ?_
          rintro e wa ⟨rfl, ra, oa⟩
          have HRda := Lib.hid ra
          have HKWa := Lib.hid (Only.made HKWr.out oa (Nat.le_refl _))
          have HOa := Lib.hid (HO.out.only oa (by omega))
          have ea := ra.err
          clear ra oa HU2 HRr
          by_cases hxa : xa = 0
          · have hxab : (xa != 0) = false := by simp [hxa]
            have HA2 := Lib.hid (show rr = _ from by rw [HA1.out, if_neg (by simp [hxa])])
            by_cases hkl : last.length < k
            · have hkli : (k : Int) > last.length := by omega
              have HRX := Lib.hid (HOE.out 4 (by rw [HA2.out, if_pos hkl]))
              go_wp2
              go_ret2
              rw [HRX.out]
              exact ⟨rfl, by decide, HKWa.out⟩
            · have hkli : ¬ (k : Int) > last.length := by omega
              have hk17 : k ≤ last.length := by omega
              have ha2 := HA2.out
              rw [if_neg hkl] at ha2
              have HRda0 := Lib.hid (show Rd wa w.heap.size sa 0 from by rw [← hxa]; exact HRda.out)
              have htx := qtext_at w.heap.size sa 0 17 wa HRda0.out (by decide)
              generalize hte : V.textF sa 0 17 = c at ha2 htx
              obtain ⟨t, sb, xb⟩ := c
              have ht17 := textF_short hte
              simp only at ha2 htx
              have HTX := Lib.hid htx
              have HA3 := Lib.hid ha2
              clear ha2 htx hte HA1 HA2
              go_wp2_with fail
              refine HTX.out.mono ?_
              rintro e wb ⟨rfl, rb, ob⟩
              have HRdb := Lib.hid rb
              have HKWb := Lib.hid (Only.made HKWa.out ob (Nat.le_refl _))
              have HOb := Lib.hid (HOa.out.only ob (by omega))
              have eb := rb.err
              clear rb ob HTX HRda HRda0 ea
              by_cases hxb : xb = 0
              · have hxbb : (xb != 0) = false := by simp [hxb]
                have ha3 := HA3.out
                rw [if_neg (by simp [hxb])] at ha3
                have hcut := cut_toQ last k hk17
                have hcat := Bit.app_list (last.take k) t
                have hts : (⟨t.toArray⟩ : ByteArray).size = t.length := by simp [ByteArray.size]
                have htks : (⟨(last.take k).toArray⟩ : ByteArray).size = (last.take k).length := by simp [ByteArray.size]
                have htkl : (last.take k).length ≤ 17 := by rw [List.length_take]; omega
                have HCL := Lib.hid (show (last.take k ++ t).length ≤ 34 from by rw [List.length_append, List.length_take]; omega)
                generalize last.take k ++ t = c at hcat ha3 HCL
                have HWh := Lib.hid (qwhole c (by have := HCL.out; omega))
                have HCm := Lib.hid (qcommon7 last c (by omega) (by have := HCL.out; omega))
                have hp16 : L16 (takeF c 0).1 := takeF_len c 0
                rw [okW_eq] at ha3
                have HPo := Lib.hid (fun (h : okW c = true) => whole_some (b := c) (p := (takeF c 0).1) (by rw [okW_eq, if_pos h]))
                generalize (takeF c 0).1 = p at hp16 ha3 HWh HPo
                generalize last.take k = tk at hcut hcat htks htkl
                have HA4 := Lib.hid ha3
                clear ha3 HA3
                go_wp2_with fail
                refine (HWh.out _).mono ?_
                rintro e wc ⟨rfl, kc⟩
                have hwc : w.heap.size < wc.heap.size := (HRdb.out.below kc).lt
                obtain ⟨hB, hSB⟩ := one_at wc zeroP zeroP_len
                have HB := Lib.hid (hB.put p hp16)
                have hst := hB.store p hp16
                have hpp := HPN.out p hp16
                have HKd := Lib.hid (hSB.keep.setRow wc.heap.size (pc p) (Nat.le_refl _))
                have HRdd := Lib.hid (((show Rd wb w.heap.size sb 0 from by rw [← hxb]; exact HRdb.out).below kc).below HKd.out)
                have HKWd := Lib.hid ((HKWb.out.trans kc).trans HKd.out)
                have HOd := Lib.hid ((HOb.out.keep kc).keep HKd.out)
                clear kc hB hSB HWh HRdb eb
                cases hok : okW c
                · rw [hok] at HA4
                  have HA5 := Lib.hid (show rr = .error 4 from HA4.out)
                  have HRX := Lib.hid (HOE.out 4 HA5.out)
                  go_wp2
                  go_ret2
                  rw [HRX.out]
                  exact ⟨rfl, by decide, HKWd.out⟩
                · rw [hok] at HA4
                  obtain ⟨hpr, _, hcb⟩ := HPo.out hok
                  have HC17 := Lib.hid (show c.length ≤ 17 from by rw [hcb]; exact bytesL_len p hpr hp16)
                  have ha4 := HA4.out
                  simp only [if_true] at ha4
                  clear hcb hpr HPo HA4
                  go_wp2_with fail
                  refine (HCm.out _).mono ?_
                  rintro e wd ⟨rfl, kd⟩
                  have HRdd2 := Lib.hid (HRdd.out.below kd)
                  have HKWd2 := Lib.hid (HKWd.out.trans kd)
                  have HOd2 := Lib.hid (HOd.out.keep kd)
                  have HBd := Lib.hid (show At wd wc.heap.size p from ⟨kd.obj HB.out.block, hp16⟩)
                  have hcml := (Dm.com_le last c).1
                  generalize Dm.com last c = CM at ha4 hcml ⊢
                  have HA4' := Lib.hid ha4
                  clear kd hst HRdd HKWd HOd HB ha4 HCm
                  by_cases hck : CM = k
                  · subst hck
                    have ha4 := HA4'.out
                    rw [if_neg (by simp)] at ha4
                    have HA45 := Lib.hid ha4
                    clear ha4 HA4'
                    have e3 : ∀ u : KW wd, (loadCellsFrom ⟨wc.heap.size, 0, none⟩ 0 n2 #[]).run Tryz.prog u.1 = .ok (pc p) u.1 := fun u => (show At u.1 wc.heap.size p from ⟨u.2.obj HBd.out.block, hp16⟩).whole HN2.out
                    by_cases hJ : J = 0
                    · have hJi : ¬ (J : Int) > 0 := by omega
                      have hJd : decide ((J : Int) > 0) = false := decide_eq_false hJi
                      have hJd2 : decide ((0 : Int) < J) = false := hJd
                      have hT0 : T = [] := List.eq_nil_of_length_eq_zero (by rw [HTL.out]; exact hJ)
                      have HA5 := Lib.hid (show rr = _ from by rw [HA45.out, if_neg (by rw [hT0]; simp [prevT, Dm.behind])])
                      have HHT := Lib.hid hT0
                      clear hT0 HA45
                      go_wp2_with fail
                      refine wp_region_keep (Keep.refl wd) (by kernel_rfl) (by kernel_rfl) ?_
                      repeat (first | go_big_quiet_step (fail) | quiet_step (fail))
                      refine wpQuiet_nil ?_
                      rintro we ⟨⟨w7, be⟩, rfl⟩
                      have HRde := Lib.hid (HRdd2.out.below be)
                      have HKWe := Lib.hid (HKWd2.out.trans be)
                      have HOe := Lib.hid (HOd2.out.keep be)
                      have HBe := Lib.hid (show At we wc.heap.size p from ⟨be.obj HBd.out.block, hp16⟩)
                      clear be
                      clear e3 hJd hJd2
                      have hu3 := quint_at w.heap.size sb 0 we HRde.out
                      have ha5 := HA5.out
                      generalize V.uintF sb 0 = c3 at ha5 hu3
                      obtain ⟨m, sc, xc⟩ := c3
                      simp only at ha5 hu3
                      have HU3 := Lib.hid hu3
                      have HA6 := Lib.hid ha5
                      clear ha5 hu3 HA5
                      go_wp2_with fail
                      refine HU3.out.mono ?_
                      rintro e wf ⟨rfl, rf, of⟩
                      have HRdf := Lib.hid rf
                      have HKWf := Lib.hid (Only.made HKWe.out of (Nat.le_refl _))
                      have HOf := Lib.hid (HOe.out.only of (by omega))
                      have HBf := Lib.hid (show At wf wc.heap.size p from ⟨of.obj HBe.out.block (by omega), hp16⟩)
                      have ef := rf.err
                      clear rf of HU3 HRde HOe HBe
                      by_cases hxc : xc = 0
                      · have hxcb : (xc != 0) = false := by simp [hxc]
                        have ha6 := HA6.out
                        rw [if_neg (by simp [hxc])] at ha6
                        by_cases hm : 65535 ≤ m
                        · have hmd : decide ((65535 : Int) ≤ m) = true := decide_eq_true (by omega)
                          have Hm := Lib.hid hm
                          clear hm
                          have HRX := Lib.hid (HOE.out 1 (by rw [ha6, if_pos Hm.out]))
                          go_wp2
                          go_ret2
                          rw [HRX.out]
                          exact ⟨rfl, by decide, HKWf.out⟩
                        · have hmd : decide ((65535 : Int) ≤ m) = false := decide_eq_false (by omega)
                          rw [if_neg hm] at ha6
                          have Hm := Lib.hid hm
                          clear hm
                          have hu4 := quint_at w.heap.size sc 0 wf (by rw [← hxc]; exact HRdf.out)
                          generalize V.uintF sc 0 = c4 at ha6 hu4
                          obtain ⟨q, sd, xd⟩ := c4
                          simp only at ha6 hu4
                          have HU4 := Lib.hid hu4
                          have HA7 := Lib.hid ha6
                          clear ha6 hu4 HA6
                          go_wp2_with fail
                          refine HU4.out.mono ?_
                          rintro e wg ⟨rfl, rg, og⟩
                          have HRdg := Lib.hid rg
                          have HKWg := Lib.hid (Only.made HKWf.out og (Nat.le_refl _))
                          have HOg := Lib.hid (HOf.out.only og (by omega))
                          have HBg := Lib.hid (show At wg wc.heap.size p from ⟨og.obj HBf.out.block (by omega), hp16⟩)
                          have eg := rg.err
                          clear rg og HU4 HRdf HOf HBf ef
                          by_cases hxd : xd = 0
                          · have hxdb : (xd != 0) = false := by simp [hxd]
                            have ha7 := HA7.out
                            rw [if_neg (by simp [hxd])] at ha7
                            by_cases hq : 4294967296 ≤ q
                            · have hqd : decide ((4294967296 : Int) ≤ q) = true := decide_eq_true (by omega)
                              have Hq := Lib.hid hq
                              clear hq
                              have HRX := Lib.hid (HOE.out 7 (by rw [ha7, if_pos Hq.out]))
                              go_wp2
                              go_ret2
                              rw [HRX.out]
                              exact ⟨rfl, by decide, HKWg.out⟩
                            · have hqd : decide ((4294967296 : Int) ≤ q) = false := decide_eq_false (by omega)
                              rw [if_neg hq] at ha7
                              have Hq := Lib.hid hq
                              clear hq
                              have HRZ := Lib.hid (HOO.out ⟨p, m, q⟩ c sd ha7)
                              have HBA := Lib.hid (fun w => build_all p hp16 m q w)
                              have HRT := Lib.hid (show rtOf ⟨p, m, q⟩ = ⟨p, m, q, hp16⟩ from dif_pos hp16)
                              have f1 := HBg.out.whole HN2.out
                              have HS1 := Lib.hid (slice_one ⟨p, m, q, hp16⟩)
                              have HW1 := Lib.hid (fun w => Row.one w ⟨p, m, q, hp16⟩)
                              have HRdg0 := Lib.hid (show Rd wg w.heap.size sd 0 from by rw [← hxd]; exact HRdg.out)
                              generalize hX : (⟨p, m, q, hp16⟩ : Rt) = X at *
                              have hml : (m : Int) < 65535 := by have := Hm.out; omega
                              have hql : (q : Int) < 4294967296 := by have := Hq.out; omega
                              clear ha7 HA7 HRdg
                              go_wp2_with (first | (refine at_build [(0, .agg (pc p)), (1, .int .i64 (m : Nat)), (2, .int .u32 (q : Nat))] rfl _ (HBA.out _) ?_) | (refine at_slice [(0, .agg (rc X))] rfl _ (HS1.out _) ?_) | (at_builtin; refine wp_app elR rfl _ _ rfl (w.heap.size + 1) _ _ (T.map rtOf) [X] rfl rfl (HOg.out.keep ((Keep.refl _).alloc _)) (HW1.out _).cells ?qa1 ?qa2 ?qa3 ?_))
                              case qa1 => rw [List.length_map, HTL.out]; simp; omega
                              case qa2 => rw [List.length_map, HTL.out]; simp; omega
                              case qa3 => have := HRdg0.out.lt; simp; omega
                              intro v9 w9 k1 k2
                              have HO9 := Lib.hid (show Own 44 20 rl (w.heap.size + 1) w9 v9 ((T ++ [(⟨p, m, q⟩ : Dm.Rw Px)]).map rtOf) from by rw [List.map_append, List.map_cons, HRT.out]; exact k1)
                              have HR9 := Lib.hid (Rd_app7 (HRdg0.out.below ((Keep.refl _).alloc _)) (HOg.out.keep ((Keep.refl _).alloc _)) (by omega) k2)
                              have HK9 := Lib.hid ((HOg.out.keep ((Keep.refl _).alloc _)).grown (HKWg.out.alloc _) (by omega) k2)
                              have HTL9 := Lib.hid (show (T ++ [(⟨p, m, q⟩ : Dm.Rw Px)]).length = J + 1 from by rw [List.length_append, HTL.out]; rfl)
                              clear k1 k2 f1 eg
                              go_wp2
                              go_roundw
                              case rel => exact ⟨T ++ [⟨p, m, q⟩], c, sd, by rw [HTL9.out]; go_num, rfl, HC17.out, by rw [HTL9.out]; omega, fun x hx => by rw [List.mem_append] at hx; rcases hx with hx | hx; exact HT16.out x hx; simp at hx; rw [hx]; exact hp16, by rw [HRZ.out, prevT_snoc, HTL9.out, show N - (J + 1) = K by have := HKK.out; omega], HO9.out, HR9.out, HK9.out⟩
                              case measure => simp [intOf]; omega
                          · have hxdb : (xd != 0) = true := by simpa using hxd
                            have cg : ∀ u : KW wg, u.1.cell? ⟨w.heap.size, 1, none⟩ = some (.int .i64 xd) := fun u => (HRdg.out.below u.2).err
                            have HRX := Lib.hid (HOE.out xd (by rw [HA7.out, if_pos hxd]))
                            go_wp2_with fail
                            refine wp_region_keep (Keep.refl wg) (by kernel_rfl) (by kernel_rfl) ?_
                            repeat (first | go_big_quiet_step (fail) | quiet_step (fail))
                            refine wpQuiet_nil ?_
                            rintro w6 ⟨⟨w7, b6⟩, rfl⟩
                            go_wp2
                            go_ret2
                            rw [HRX.out]
                            exact ⟨rfl, hxd, HKWg.out.trans b6⟩
                      · have hxcb : (xc != 0) = true := by simpa using hxc
                        have cf : ∀ u : KW wf, u.1.cell? ⟨w.heap.size, 1, none⟩ = some (.int .i64 xc) := fun u => (HRdf.out.below u.2).err
                        have HRX := Lib.hid (HOE.out xc (by rw [HA6.out, if_pos hxc]))
                        go_wp2_with fail
                        refine wp_region_keep (Keep.refl wf) (by kernel_rfl) (by kernel_rfl) ?_
                        repeat (first | go_big_quiet_step (fail) | quiet_step (fail))
                        refine wpQuiet_nil ?_
                        rintro w6 ⟨⟨w7, b6⟩, rfl⟩
                        go_wp2
                        go_ret2
                        rw [HRX.out]
                        exact ⟨rfl, hxc, HKWf.out.trans b6⟩

                    · have hJi : (J : Int) > 0 := by omega
                      have hJd : decide ((J : Int) > 0) = true := decide_eq_true hJi
                      have hJd2 : decide ((0 : Int) < J) = true := hJd
                      have hJ0 : 0 < J := by omega
                      have hJd3 : decide (0 < J) = true := decide_eq_true hJ0
                      obtain ⟨x, hx⟩ : ∃ x, T[J - 1]? = some x := ⟨_, List.getElem?_eq_getElem (by rw [HTL.out]; omega)⟩
                      have hx16 := HT16.out x (List.mem_of_getElem? hx)
                      have hpv : prevT T = some x.p := by
                        unfold prevT
                        rw [List.getLast?_eq_getElem?, HTL.out, hx]
                        rfl
                      have hxto : (rtOf x).to = x.p := by unfold rtOf; rw [dif_pos hx16]
                      have hcl := (HOd2.out.row elR).cells
                      obtain ⟨g, o, cap', hv, _, _, _⟩ := hcl.ptr 0 (by rw [List.length_map, HTL.out]; omega)
                      subst hv
                      have e4 : ∀ u : KW wd, (loadCellsFrom ⟨g, o + (J - 1) * n, none⟩ 0 n2 #[]).run Tryz.prog u.1 = .ok (pc x.p) u.1 := fun u => by
                        rw [← hxto]
                        exact (hcl.keep u.2).to HN2.out HN.out (J - 1) (rtOf x) (by rw [List.getElem?_map, hx]; rfl)
                      have HCP := Lib.hid (qcompare x.p p hx16 hp16).keep
                      have hlen : (T.map rtOf).length = J := by rw [List.length_map, HTL.out]
                      have hJ1 : (J : Int) - 1 = ((J - 1 : Nat) : Int) := by omega
                      rw [hpv] at HA45
                      rw [hlen]
                      have HOd2 := Lib.hid (show Own 44 20 rl (w.heap.size + 1) wd (.slice (some ⟨g, o, none⟩) J cap') (T.map rtOf) from by have := HOd2.out; rwa [hlen] at this)
                      clear hcl hxto hpv hlen hx
                      obtain ⟨J1, hJ1e⟩ : ∃ J1, J1 = J - 1 := ⟨_, rfl⟩
                      rw [← hJ1e] at e4 hJ1
                      have hJ1l : J1 < J := by omega
                      clear hJ1e
                      generalize x.p = xp at *
                      by_cases hcp : 0 ≤ cmpP xp p
                      · have HRX0 := Lib.hid (show rr = .error 6 from by rw [HA45.out, if_pos (by simp [Dm.behind, codP]; omega)])
                        clear HA45
                        go_wp2_with fail
                        refine wp_region_keep (Keep.refl wd) (by kernel_rfl) (by kernel_rfl) ?_
                        repeat (first | go_big_quiet_step (exact HCP.out.at _) | quiet_step (exact HCP.out.at _))
                        refine wpQuiet_nil ?_
                        rintro we ⟨⟨w7, be⟩, rfl⟩
                        have HRde := Lib.hid (HRdd2.out.below be)
                        have HKWe := Lib.hid (HKWd2.out.trans be)
                        have HOe := Lib.hid (HOd2.out.keep be)
                        have HBe := Lib.hid (show At we wc.heap.size p from ⟨be.obj HBd.out.block, hp16⟩)
                        clear be
                        have HRX := Lib.hid (HOE.out 6 HRX0.out)
                        go_wp2
                        go_ret2
                        rw [HRX.out]
                        exact ⟨rfl, by decide, HKWe.out⟩
                      · have HA5 := Lib.hid (show rr = _ from by rw [HA45.out, if_neg (by simp [Dm.behind, codP]; omega)])
                        clear HA45
                        go_wp2_with fail
                        refine wp_region_keep (Keep.refl wd) (by kernel_rfl) (by kernel_rfl) ?_
                        repeat (first | go_big_quiet_step (exact HCP.out.at _) | quiet_step (exact HCP.out.at _))
                        refine wpQuiet_nil ?_
                        rintro we ⟨⟨w7, be⟩, rfl⟩
                        have HRde := Lib.hid (HRdd2.out.below be)
                        have HKWe := Lib.hid (HKWd2.out.trans be)
                        have HOe := Lib.hid (HOd2.out.keep be)
                        have HBe := Lib.hid (show At we wc.heap.size p from ⟨be.obj HBd.out.block, hp16⟩)
                        clear be
                        clear e3 e4 hJd hJd2 hJd3
                        have hu3 := quint_at w.heap.size sb 0 we HRde.out
                        have ha5 := HA5.out
                        generalize V.uintF sb 0 = c3 at ha5 hu3
                        obtain ⟨m, sc, xc⟩ := c3
                        simp only at ha5 hu3
                        have HU3 := Lib.hid hu3
                        have HA6 := Lib.hid ha5
                        clear ha5 hu3 HA5
                        go_wp2_with fail
                        refine HU3.out.mono ?_
                        rintro e wf ⟨rfl, rf, of⟩
                        have HRdf := Lib.hid rf
                        have HKWf := Lib.hid (Only.made HKWe.out of (Nat.le_refl _))
                        have HOf := Lib.hid (HOe.out.only of (by omega))
                        have HBf := Lib.hid (show At wf wc.heap.size p from ⟨of.obj HBe.out.block (by omega), hp16⟩)
                        have ef := rf.err
                        clear rf of HU3 HRde HOe HBe
                        by_cases hxc : xc = 0
                        · have hxcb : (xc != 0) = false := by simp [hxc]
                          have ha6 := HA6.out
                          rw [if_neg (by simp [hxc])] at ha6
                          by_cases hm : 65535 ≤ m
                          · have hmd : decide ((65535 : Int) ≤ m) = true := decide_eq_true (by omega)
                            have Hm := Lib.hid hm
                            clear hm
                            have HRX := Lib.hid (HOE.out 1 (by rw [ha6, if_pos Hm.out]))
                            go_wp2
                            go_ret2
                            rw [HRX.out]
                            exact ⟨rfl, by decide, HKWf.out⟩
                          · have hmd : decide ((65535 : Int) ≤ m) = false := decide_eq_false (by omega)
                            rw [if_neg hm] at ha6
                            have Hm := Lib.hid hm
                            clear hm
                            have hu4 := quint_at w.heap.size sc 0 wf (by rw [← hxc]; exact HRdf.out)
                            generalize V.uintF sc 0 = c4 at ha6 hu4
                            obtain ⟨q, sd, xd⟩ := c4
                            simp only at ha6 hu4
                            have HU4 := Lib.hid hu4
                            have HA7 := Lib.hid ha6
                            clear ha6 hu4 HA6
                            go_wp2_with fail
                            refine HU4.out.mono ?_
                            rintro e wg ⟨rfl, rg, og⟩
                            have HRdg := Lib.hid rg
                            have HKWg := Lib.hid (Only.made HKWf.out og (Nat.le_refl _))
                            have HOg := Lib.hid (HOf.out.only og (by omega))
                            have HBg := Lib.hid (show At wg wc.heap.size p from ⟨og.obj HBf.out.block (by omega), hp16⟩)
                            have eg := rg.err
                            clear rg og HU4 HRdf HOf HBf ef
                            by_cases hxd : xd = 0
                            · have hxdb : (xd != 0) = false := by simp [hxd]
                              have ha7 := HA7.out
                              rw [if_neg (by simp [hxd])] at ha7
                              by_cases hq : 4294967296 ≤ q
                              · have hqd : decide ((4294967296 : Int) ≤ q) = true := decide_eq_true (by omega)
                                have Hq := Lib.hid hq
                                clear hq
                                have HRX := Lib.hid (HOE.out 7 (by rw [ha7, if_pos Hq.out]))
                                go_wp2
                                go_ret2
                                rw [HRX.out]
                                exact ⟨rfl, by decide, HKWg.out⟩
                              · have hqd : decide ((4294967296 : Int) ≤ q) = false := decide_eq_false (by omega)
                                rw [if_neg hq] at ha7
                                have Hq := Lib.hid hq
                                clear hq
                                have HRZ := Lib.hid (HOO.out ⟨p, m, q⟩ c sd ha7)
                                have HBA := Lib.hid (fun w => build_all p hp16 m q w)
                                have HRT := Lib.hid (show rtOf ⟨p, m, q⟩ = ⟨p, m, q, hp16⟩ from dif_pos hp16)
                                have f1 := HBg.out.whole HN2.out
                                have HS1 := Lib.hid (slice_one ⟨p, m, q, hp16⟩)
                                have HW1 := Lib.hid (fun w => Row.one w ⟨p, m, q, hp16⟩)
                                have HRdg0 := Lib.hid (show Rd wg w.heap.size sd 0 from by rw [← hxd]; exact HRdg.out)
                                generalize hX : (⟨p, m, q, hp16⟩ : Rt) = X at *
                                have hml : (m : Int) < 65535 := by have := Hm.out; omega
                                have hql : (q : Int) < 4294967296 := by have := Hq.out; omega
                                clear ha7 HA7 HRdg
                                go_wp2_with (first | (refine at_build [(0, .agg (pc p)), (1, .int .i64 (m : Nat)), (2, .int .u32 (q : Nat))] rfl _ (HBA.out _) ?_) | (refine at_slice [(0, .agg (rc X))] rfl _ (HS1.out _) ?_) | (at_builtin; refine wp_app elR rfl _ _ rfl (w.heap.size + 1) _ _ (T.map rtOf) [X] rfl rfl (HOg.out.keep ((Keep.refl _).alloc _)) (HW1.out _).cells ?qb1 ?qb2 ?qb3 ?_))
                                case qb1 => rw [List.length_map, HTL.out]; simp; omega
                                case qb2 => rw [List.length_map, HTL.out]; simp; omega
                                case qb3 => have := HRdg0.out.lt; simp; omega
                                intro v9 w9 k1 k2
                                have HO9 := Lib.hid (show Own 44 20 rl (w.heap.size + 1) w9 v9 ((T ++ [(⟨p, m, q⟩ : Dm.Rw Px)]).map rtOf) from by rw [List.map_append, List.map_cons, HRT.out]; exact k1)
                                have HR9 := Lib.hid (Rd_app7 (HRdg0.out.below ((Keep.refl _).alloc _)) (HOg.out.keep ((Keep.refl _).alloc _)) (by omega) k2)
                                have HK9 := Lib.hid ((HOg.out.keep ((Keep.refl _).alloc _)).grown (HKWg.out.alloc _) (by omega) k2)
                                have HTL9 := Lib.hid (show (T ++ [(⟨p, m, q⟩ : Dm.Rw Px)]).length = J + 1 from by rw [List.length_append, HTL.out]; rfl)
                                clear k1 k2 f1 eg
                                go_wp2
                                go_roundw
                                case rel => exact ⟨T ++ [⟨p, m, q⟩], c, sd, by rw [HTL9.out]; go_num, rfl, HC17.out, by rw [HTL9.out]; omega, fun x hx => by rw [List.mem_append] at hx; rcases hx with hx | hx; exact HT16.out x hx; simp at hx; rw [hx]; exact hp16, by rw [HRZ.out, prevT_snoc, HTL9.out, show N - (J + 1) = K by have := HKK.out; omega], HO9.out, HR9.out, HK9.out⟩
                                case measure => simp [intOf]; omega
                            · have hxdb : (xd != 0) = true := by simpa using hxd
                              have cg : ∀ u : KW wg, u.1.cell? ⟨w.heap.size, 1, none⟩ = some (.int .i64 xd) := fun u => (HRdg.out.below u.2).err
                              have HRX := Lib.hid (HOE.out xd (by rw [HA7.out, if_pos hxd]))
                              go_wp2_with fail
                              refine wp_region_keep (Keep.refl wg) (by kernel_rfl) (by kernel_rfl) ?_
                              repeat (first | go_big_quiet_step (fail) | quiet_step (fail))
                              refine wpQuiet_nil ?_
                              rintro w6 ⟨⟨w7, b6⟩, rfl⟩
                              go_wp2
                              go_ret2
                              rw [HRX.out]
                              exact ⟨rfl, hxd, HKWg.out.trans b6⟩
                        · have hxcb : (xc != 0) = true := by simpa using hxc
                          have cf : ∀ u : KW wf, u.1.cell? ⟨w.heap.size, 1, none⟩ = some (.int .i64 xc) := fun u => (HRdf.out.below u.2).err
                          have HRX := Lib.hid (HOE.out xc (by rw [HA6.out, if_pos hxc]))
                          go_wp2_with fail
                          refine wp_region_keep (Keep.refl wf) (by kernel_rfl) (by kernel_rfl) ?_
                          repeat (first | go_big_quiet_step (fail) | quiet_step (fail))
                          refine wpQuiet_nil ?_
                          rintro w6 ⟨⟨w7, b6⟩, rfl⟩
                          go_wp2
                          go_ret2
                          rw [HRX.out]
                          exact ⟨rfl, hxc, HKWf.out.trans b6⟩

                  · have hcki : ¬ (CM : Int) = k := by omega
                    have HRX0 := Lib.hid (show rr = .error 4 from by rw [HA4'.out, if_pos hck])
                    have HKWdd := HKWd2
                    have HRX := Lib.hid (HOE.out 4 HRX0.out)
                    go_wp2
                    go_ret2
                    rw [HRX.out]
                    exact ⟨rfl, by decide, HKWd2.out⟩

              · have hxbb : (xb != 0) = true := by simpa using hxb
                have cb : ∀ u : KW wb, u.1.cell? ⟨w.heap.size, 1, none⟩ = some (.int .i64 xb) := fun u => (HRdb.out.below u.2).err
                have HRX := Lib.hid (HOE.out xb (by rw [HA3.out, if_pos hxb]))
                go_wp2_with fail
                refine wp_region_keep (Keep.refl wb) (by kernel_rfl) (by kernel_rfl) ?_
                repeat (first | go_big_quiet_step (fail) | quiet_step (fail))
                refine wpQuiet_nil ?_
                rintro w6 ⟨⟨w7, b6⟩, rfl⟩
                go_wp2
                go_ret2
                rw [HRX.out]
                exact ⟨rfl, hxb, HKWb.out.trans b6⟩
          · have hxab : (xa != 0) = true := by simpa using hxa
            have ca : ∀ u : KW wa, u.1.cell? ⟨w.heap.size, 1, none⟩ = some (.int .i64 xa) := fun u => (HRda.out.below u.2).err
            have HRX := Lib.hid (HOE.out xa (by rw [HA1.out, if_pos hxa]))
            go_wp2_with fail
            refine wp_region_keep (Keep.refl wa) (by kernel_rfl) (by kernel_rfl) ?_
            repeat (first | go_big_quiet_step (fail) | quiet_step (fail))
            refine wpQuiet_nil ?_
            rintro w6 ⟨⟨w7, b6⟩, rfl⟩
            go_wp2
            go_ret2
            rw [HRX.out]
            exact ⟨rfl, hxa, HKWa.out.trans b6⟩
        · have hlti : ¬ (J : Int) < N := by omega
          have HRX := Lib.hid (HDO.out T s' (by rw [HEQ.out, show N - J = 0 by omega]; simp [Dm.readN, preR]))
          have er := HRr.out.rest
          have HRow := Lib.hid (HO.out.row elR)
          by_cases hs' : s' = []
          · subst hs'
            go_wp2
            go_ret2
            rw [HRX.out, if_pos trivial]
            exact ⟨_, rfl, HRow.out, HKWr.out⟩
          · have g0 : ((⟨s'.toArray⟩ : ByteArray) == ⟨#[]⟩) = false := by
              rw [Bool.eq_false_iff]
              intro h
              rw [MapKept.bytes_beq] at h
              simp at h
              exact hs' h
            have g2 : s'.isEmpty = false := by cases s' <;> simp_all
            go_wp2
            go_ret2
            rw [HRX.out, if_neg hs']
            exact ⟨rfl, by decide, HKWr.out⟩
  · have hx1b : (x1 != 0) = true := by simpa using hx1
    have c1 : ∀ u : KW w1, u.1.cell? ⟨w.heap.size, 1, none⟩ = some (.int .i64 x1) := fun u => (HRd1.out.below u.2).err
    have HRX := Lib.hid (HDE.out x1 (by rw [HR0.out, if_pos hx1]))
    go_wp2_with fail
    refine wp_region_keep (Keep.refl w1) (by kernel_rfl) (by kernel_rfl) ?_
    repeat (first | go_big_quiet_step (fail) | quiet_step (fail))
    refine wpQuiet_nil ?_
    rintro w6 ⟨⟨w7, b6⟩, rfl⟩
    go_wp2
    go_ret2
    rw [HRX.out]
    exact ⟨rfl, hx1, HKW1.out.trans b6⟩
end Go.Proofs.YtpimecnpdpcceaaGreat
