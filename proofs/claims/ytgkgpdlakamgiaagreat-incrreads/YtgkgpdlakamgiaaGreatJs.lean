/- Proved: what the document's Read of layer 8 answers. Condition: the text has at most 10^6 bytes. -/
import Derived.Test.YtgkgpdlakamgiaaGreatOi
namespace Go.Proofs.YtgkgpdlakamgiaaGreat
open Go.RowKit

theorem build_qr (s : ByteArray) (w : World) : (Instr.build 82 #[(0, .string s)]).run Tryz.prog w = .ok (.agg #[.string s, .int .i64 0]) w := by kernel_rfl
theorem qr_new (w : World) (l : List UInt8) (hl : l.length ≤ maxLen) : Rd (w.alloc (.cells #[.string ⟨l.toArray⟩, .int .i64 0] 82)) w.heap.size l 0 := ⟨by go_simp, by go_simp, by go_simp, by go_simp, hl⟩
theorem build_kind (k : Int) (w : World) : (Instr.build 59 #[(0, .int .i64 k)]).run Tryz.prog w = .ok (.agg (ic ⟨k, zeroR⟩)) w := by kernel_rfl
theorem IAt.free {w : World} {b : Nat} {i : Ic} (h : IAt w b i) (j : Nat) : w.frozen? ⟨b, j, none⟩ = false := by
  unfold IAt at h
  simp [World.frozen?, h]
theorem IAt.storeTo {w : World} {b : Nat} {i : Ic} (h : IAt w b i) (p : Px) (hp : p.addr.length = 16) : (storeCells ⟨b, 1, none⟩ (pc p).toList).run Tryz.prog w = .ok () (w.setRow b (ic ⟨i.kind, ⟨p, i.route.metric, i.route.seq, hp⟩⟩)) := by
  have hsc := run_storeCells_at (P := Tryz.prog) b 1 59 (pc p).toList 0 (ic i) w h (by rw [ic_size, pcl p hp]; omega) (pc_one p)
  have e : ((ic i).toList.take (1 + 0) ++ (pc p).toList ++ (ic i).toList.drop (1 + 0 + (pc p).toList.length)).toArray = ic ⟨i.kind, ⟨p, i.route.metric, i.route.seq, hp⟩⟩ := by
    rw [pcl p hp]
    have h1 : (ic i).toList = .int .i64 i.kind :: ((pc i.route.to).toList ++ [.int .i64 i.route.metric, .int .u32 i.route.seq]) := rfl
    rw [h1]
    have h2 : ((pc i.route.to).toList ++ [Value.int .i64 i.route.metric, Value.int .u32 i.route.seq]).drop 18 = [.int .i64 i.route.metric, .int .u32 i.route.seq] := List.drop_left' (pcl _ i.route.ok)
    simp only [Nat.add_zero, List.take_succ_cons, List.take_zero, List.drop_succ_cons, Nat.reduceAdd]
    rw [h2]
    simp [ic, il, rl]
  rw [e] at hsc
  exact hsc
theorem set_mid (A : List Value) (x y z : Value) (n : Nat) (hn : A.length = n) : (A ++ [x, y]).set n z = A ++ [z, y] := by
  subst hn
  simp
theorem set_end (A : List Value) (x y z : Value) (n : Nat) (hn : A.length + 1 = n) : (A ++ [x, y]).set n z = A ++ [x, z] := by
  subst hn
  simp [List.set_append]
theorem IAt.setMetric {w : World} {b : Nat} {i : Ic} (h : IAt w b i) (m : Int) : IAt (w.setCell ⟨b, 19, none⟩ (.int .i64 m)) b ⟨i.kind, ⟨i.route.to, m, i.route.seq, i.route.ok⟩⟩ := by
  have h1 := block_set h 19 (.int .i64 m)
  unfold IAt
  rw [h1]
  congr 2
  have h3 := set_mid (Value.int .i64 i.kind :: (pc i.route.to).toList) (.int .i64 i.route.metric) (.int .u32 i.route.seq) (.int .i64 m) 19 (by rw [List.length_cons, pcl _ i.route.ok])
  apply Array.ext'
  rw [Array.toList_setIfInBounds]
  exact h3
theorem IAt.setSeq {w : World} {b : Nat} {i : Ic} (h : IAt w b i) (q : Int) : IAt (w.setCell ⟨b, 20, none⟩ (.int .u32 q)) b ⟨i.kind, ⟨i.route.to, i.route.metric, q, i.route.ok⟩⟩ := by
  have h1 := block_set h 20 (.int .u32 q)
  unfold IAt
  rw [h1]
  congr 2
  have h3 := set_end (Value.int .i64 i.kind :: (pc i.route.to).toList) (.int .i64 i.route.metric) (.int .u32 i.route.seq) (.int .u32 q) 20 (by rw [List.length_cons, pcl _ i.route.ok])
  apply Array.ext'
  rw [Array.toList_setIfInBounds]
  exact h3
theorem Own.otherB {α : Type} {t k : Nat} {enc : α → List Value} {B b : Nat} {w w' : World} {v : Value} {l : List α} (h : Own t k enc B w v l) (q : Only b w w') (hb : v.ownBlock ≠ some b) : Own t k enc B w' v l := by
  refine ⟨h.1, ?_⟩
  rcases h.2 with hn | ⟨g', cap, cur, rfl, hB, hgg, rest⟩
  · exact .inl hn
  · exact .inr ⟨g', cap, cur, rfl, hB, (q.block g' (block_lt hgg) (fun e => hb (by rw [← e]; rfl))).trans hgg, rest⟩
theorem Only.setRow (b : Nat) (w : World) (c : Array Value) : Only b w (w.setRow b c) :=
  ⟨rfl, rfl, rfl, by simp [World.setRow], fun k _ hb => by
    simp only [World.setRow, Array.getElem?_modify]
    rw [if_neg (Ne.symm hb)]⟩
def QsRel (w : World) (N : Nat) (r0 : Except Int (List Ic × List UInt8)) (lv iv : Value) (wr : World) : Prop :=
  ∃ (T : List Ic) (s : List UInt8), iv = .int .u64 (T.length : Nat) ∧ T.length ≤ N ∧ r0 = preI T (readN8 (N - T.length) s) ∧ Own 59 21 il (w.heap.size + 1) wr lv T ∧ Rd wr w.heap.size s 0 ∧ Keep w wr

set_option maxRecDepth 100000 in
set_option maxHeartbeats 8000000 in
theorem qread8 (s : List UInt8) (w : World) (hs : s.length ≤ 1000000) : Calls Tryz.prog 12 #[.string ⟨s.toArray⟩] w (ReadPost w (readI s)) := by
  obtain ⟨R, hR⟩ : ∃ R, R = readI s := ⟨_, rfl⟩
  rw [← hR]
  unfold readI at hR
  have HBD := Lib.hid (build_qr ⟨s.toArray⟩)
  have HRd0 := Lib.hid (qr_new w s (by unfold maxLen; omega))
  have HKW0 := Lib.hid (show Keep w (w.alloc (.cells #[.string ⟨s.toArray⟩, .int .i64 0] 82)) from (Keep.refl _).alloc _)
  have hu := quint_at w.heap.size s 0 _ HRd0.out
  generalize V.uintF s 0 = c at hR hu
  obtain ⟨N, s1, x1⟩ := c
  simp only at hR hu
  have HU := Lib.hid hu
  have HR0 := Lib.hid hR
  obtain ⟨hz1, hi1⟩ := zero_of_info info43b
  obtain ⟨hz2, hi2⟩ := zero_of_info info24b
  obtain ⟨n, hn⟩ : ∃ n, n = 21 := ⟨21, rfl⟩
  have hsz : ∀ w, (Go.sizeOf 59).run Tryz.prog w = .ok n w := fun w => by rw [hn]; exact Tryz.sizeOf59 w
  have hn0 : ¬ n = 0 := by omega
  have hrn : ∀ i : Ic, (ic i).size = n := fun i => by rw [hn]; exact ic_size i
  obtain ⟨n2, hn2⟩ : ∃ n, n = 18 := ⟨18, rfl⟩
  have hsz2 : ∀ w, (Go.sizeOf 54).run Tryz.prog w = .ok n2 w := fun w => by rw [hn2]; exact Tryz.sizeOf54 w
  have hn20 : ¬ n2 = 0 := by omega
  have hpz : (pc zeroP).size = n2 := by rw [hn2]; exact pc_size zeroP rfl
  have HPN := Lib.hid (fun (p : Px) (hp : L16 p) => show (pc p).size = n2 from by rw [hn2]; exact pc_size p hp)
  have HN := Lib.hid hn
  have HN2 := Lib.hid hn2
  clear hR hu hn hn2
  go_enter Tryz.func12, Tryz.ntmps12
  go_wp2_with ((with_reducible refine at_build [(0, .string ⟨s.toArray⟩)] ?_ (.agg #[.string ⟨s.toArray⟩, .int .i64 0]) ?_ ?_); rfl; exact HBD.out _)
  refine HU.out.mono ?_
  rintro e w1 ⟨rfl, r1, o1⟩
  have HRd1 := Lib.hid r1
  have HKW1 := Lib.hid (Only.made HKW0.out o1 (Nat.le_refl _))
  have e1 := r1.err
  clear r1 o1 HU
  by_cases hx1 : x1 = 0
  · subst hx1
    rw [if_neg (by simp)] at HR0
    by_cases hbig : 201 ≤ N
    · have hbi : (N : Int) > 200 := by omega
      rw [if_pos hbig] at HR0
      go_wp2
      go_ret2
      rw [HR0.out]
      exact ⟨rfl, by decide, HKW1.out⟩
    · have hbi : ¬ (N : Int) > 200 := by omega
      rw [if_neg hbig] at HR0
      obtain ⟨Q, hQ⟩ : ∃ Q, Q = readN8 N s1 := ⟨_, rfl⟩
      rw [← hQ] at HR0
      have HQ := Lib.hid hQ
      clear hQ HRd0 HKW0
      go_wp2
      go_loopw [6, 7] (fun lv iv wr => QsRel w N Q lv iv wr) (fun _ iv _ => N - (intOf iv).toNat)
      case atStart => exact ⟨[], s1, rfl, Nat.zero_le _, by rw [HQ.out, preI_nil]; rfl, Own.nil _ _, HRd1.out, HKW1.out⟩
      case round =>
        obtain ⟨T, s', rfl, hTN, heq, hown, hrd, hw⟩ := hrel
        have HEQ := Lib.hid heq
        have HO := Lib.hid hown
        have HRr := Lib.hid hrd
        have HKWr := Lib.hid hw
        clear heq hown hrd hw e1
        generalize hTl : T.length = J at *
        have HTL := Lib.hid hTl
        clear hTl
        by_cases hlt : J < N
        · have hlti : (J : Int) < N := by omega
          obtain ⟨K, hK⟩ : ∃ K, N - J = K + 1 := ⟨N - J - 1, by omega⟩
          have heq := HEQ.out
          rw [hK] at heq
          have HOE := Lib.hid (fun x (hx : chF s' = .error x) => show R = .error x from by rw [HR0.out, show Q = .error x from by rw [heq, readN8_err hx]; rfl])
          have HOO := Lib.hid (fun x s2 (hx : chF s' = .ok (x, s2)) => show Q = preI (T ++ [x]) (readN8 K s2) from by rw [heq, readN8_ok hx])
          have HKK := Lib.hid hK
          obtain ⟨rr, hrr⟩ : ∃ rr, rr = chF s' := ⟨_, rfl⟩
          rw [← hrr] at HOE HOO
          unfold chF at hrr
          have hu2 := qbyte_at w.heap.size s' 0 wr HRr.out
          generalize V.byteF s' 0 = cb at hrr hu2
          obtain ⟨cb, sa, xa⟩ := cb
          simp only at hrr hu2
          have hcl := cb.toNat_lt
          generalize cb.toNat = c at *
          have HU2 := Lib.hid hu2
          have HA1 := Lib.hid hrr
          have HBK := Lib.hid (fun w => build_kind (c : Int) w)
          clear heq hK HEQ hrr hu2
          go_wp2_with fail
          refine HU2.out.mono ?_
          rintro e wa ⟨rfl, ra, oa⟩
          have hlta : w.heap.size < wa.heap.size := ra.lt
          have HKWa := Lib.hid (Only.made HKWr.out oa (Nat.le_refl _))
          have HOa := Lib.hid (HO.out.only oa (by omega))
          have HOB := Lib.hid (fun g (hg : World.ownsRow wa (w.heap.size + 1) 59 21 g T.length (flat il T)) => show g.ownBlock ≠ some wa.heap.size from fun e => by have := (World.ownsRow.lt hg _ e).2; omega)
          have HNB := Lib.hid (HOB.out _ HOa.out)
          have HIn := Lib.hid (IAt.new wa zeroI)
          have hst := HIn.out.store ⟨c, zeroR⟩
          obtain ⟨wb, hwb⟩ : ∃ wb, (wa.alloc (.cells (ic zeroI) 59)).setRow wa.heap.size (ic ⟨c, zeroR⟩) = wb := ⟨_, rfl⟩
          have HIb := Lib.hid (show IAt wb wa.heap.size ⟨c, zeroR⟩ from by rw [← hwb]; exact HIn.out.put _)
          have hKab : Keep wa wb := by rw [← hwb]; exact ((Keep.refl wa).alloc _).setRow _ _ (Nat.le_refl _)
          have HRb := Lib.hid (ra.below hKab)
          have HOb := Lib.hid (HOa.out.keep hKab)
          have HKWb := Lib.hid (HKWa.out.trans hKab)
          rw [hwb] at hst
          have eb := HRb.out.err
          have kb := HIb.out.kind
          have hsx := hwb
          have hIz := hrn ⟨c, zeroR⟩
          clear ra oa HOB HIn hwb hKab HU2 HO HRr HKWr HOa HKWa
          by_cases hxa : xa = 0
          · subst hxa
            have ha1 := HA1.out
            rw [if_neg (by simp)] at ha1
            by_cases hk : 1 ≤ c ∧ c ≤ 3
            · have hk1 : ¬ ((c : Int) < 1) := by omega
              have hk2 : ¬ ((c : Int) > 3) := by omega
              rw [if_neg (by simpa using hk)] at ha1
              have HTk := Lib.hid (qread_at w.heap.size sa 0 wb HRb.out)
              have hp16 := takeF_len sa 0
              have HFW := Lib.hid (fun h => (take_fwd (b := sa) h).2.2)
              generalize takeF sa 0 = tk at ha1 HTk hp16 HFW
              obtain ⟨p, x2, s2, y2⟩ := tk
              simp only at ha1 HTk hp16 HFW
              rw [mkR_of hp16] at ha1
              simp only [mkR_of hp16] at ha1
              have HA2 := Lib.hid ha1
              clear ha1
              go_wp2_with ((with_reducible refine at_build (t := 59) [(0, .int .i64 (c : Nat))] ?_ (.agg (ic ⟨c, zeroR⟩)) ?_ ?_); rfl; exact HBK.out _)
              refine HTk.out.mono ?_
              rintro e wc ⟨rfl, rc', oc⟩
              simp only at rc'
              have HIc := Lib.hid (show IAt wc wa.heap.size ⟨c, zeroR⟩ from HIb.out.only oc (by omega))
              have HOc := Lib.hid (HOb.out.only oc (by omega))
              have HKWc := Lib.hid (Only.made HKWb.out oc (Nat.le_refl _))
              have hltc : wa.heap.size < wc.heap.size := block_lt HIc.out
              obtain ⟨hB, hSB⟩ := one_at wc zeroP zeroP_len
              have hst2 := hB.store p hp16
              have hpp := HPN.out p hp16
              obtain ⟨wd', hwd⟩ : ∃ wd', (wc.alloc (.cells (pc zeroP) 54)).setRow wc.heap.size (pc p) = wd' := ⟨_, rfl⟩
              have HBd := Lib.hid (show At wd' wc.heap.size p from by rw [← hwd]; exact hB.put p hp16)
              have hKcd : Keep wc wd' := by rw [← hwd]; exact hSB.keep.setRow _ _ (Nat.le_refl _)
              rw [hwd] at hst2
              have HId := Lib.hid (HIc.out.keep hKcd)
              have HOd := Lib.hid (HOc.out.keep hKcd)
              have HKWd := Lib.hid (HKWc.out.trans hKcd)
              have HRd := Lib.hid (rc'.below hKcd)
              have hsx2 := hwd
              clear oc hB hSB hwd hKcd rc' HTk HIb HOb HKWb HRb eb
              by_cases hx2 : x2 = 0
              · subst hx2
                have ha2 := HA2.out
                rw [if_neg (by simp)] at ha2
                obtain rfl : y2 = 0 := HFW.out rfl
                have hld := HBd.out.whole HN2.out
                have hst3 := HId.out.storeTo p hp16
                obtain ⟨we, hwe⟩ : ∃ we, wd'.setRow wa.heap.size (ic ⟨(⟨c, zeroR⟩ : Ic).kind, ⟨p, (⟨c, zeroR⟩ : Ic).route.metric, (⟨c, zeroR⟩ : Ic).route.seq, hp16⟩⟩) = we := ⟨_, rfl⟩
                have hoe : Only wa.heap.size wd' we := by rw [← hwe]; exact Only.setRow _ _ _
                have HIe := Lib.hid (show IAt we wa.heap.size ⟨c, ⟨p, 0, 0, hp16⟩⟩ from by rw [← hwe]; exact HId.out.put _)
                have HOe := Lib.hid (HOd.out.otherB hoe HNB.out)
                have HRe := Lib.hid (show Rd we w.heap.size s2 0 from HRd.out.other hoe (by omega) HRd.out.lt)
                have HKWe := Lib.hid (Only.made HKWd.out hoe (by omega))
                rw [hwe] at hst3
                have ke : we.cell? ⟨wa.heap.size, 0, none⟩ = some (.int .i64 (c : Nat)) := HIe.out.kind
                clear hoe hwe HId HOd HRd HKWd HFW
                by_cases hc3 : c = 3
                · rw [if_pos hc3] at ha2
                  have HRZ := Lib.hid (HOO.out _ _ ha2)
                  subst hc3
                  have ke3 : we.cell? ⟨wa.heap.size, 0, none⟩ = some (.int .i64 3) := ke
                  clear ke
                  have f1 := HIe.out.whole HN.out
                  have HS1 := Lib.hid (slice_inc ⟨3, ⟨p, 0, 0, hp16⟩⟩)
                  have HW1 := Lib.hid (fun w => Row.inc w ⟨3, ⟨p, 0, 0, hp16⟩⟩)
                  generalize hX : (⟨3, ⟨p, 0, 0, hp16⟩⟩ : Ic) = X at *
                  have f1' : (loadCellsFrom ⟨wa.heap.size, 0, none⟩ 0 n #[]).run Tryz.prog we = .ok (ic X) we := by rw [← hX]; rw [← hX] at HIe; exact HIe.out.whole HN.out
                  clear ha2 HA2 HA1 f1 hX
                  go_wp2_with (first | ((with_reducible refine at_slice [(0, .agg (ic X))] ?_ _ (HS1.out _) ?_); rfl) | (at_builtin; refine wp_app elI rfl _ _ rfl (w.heap.size + 1) _ _ T [X] rfl rfl (HOe.out.keep ((Keep.refl _).alloc _)) (HW1.out _).cells ?qa1 ?qa2 ?qa3 ?_))
                  case qa1 => rw [HTL.out]; simp; omega
                  case qa2 => rw [HTL.out]; simp; omega
                  case qa3 => have := HRe.out.lt; simp; omega
                  intro v9 w9 k1 k2
                  have HO9 := Lib.hid k1
                  have HR9 := Lib.hid (Rd.app (HRe.out.below ((Keep.refl _).alloc _)) (HOe.out.keep ((Keep.refl _).alloc _)) (by omega) k2)
                  have HK9 := Lib.hid ((HOe.out.keep ((Keep.refl _).alloc _)).grown (HKWe.out.alloc _) (by omega) k2)
                  have HTL9 := Lib.hid (show (T ++ [X]).length = J + 1 from by rw [List.length_append, HTL.out]; rfl)
                  clear k1 k2 f1'
                  go_wp2
                  go_roundw
                  case rel => exact ⟨T ++ [X], s2, by rw [HTL9.out]; go_num, by rw [HTL9.out]; omega, by rw [HRZ.out, HTL9.out, show N - (J + 1) = K by have := HKK.out; omega], HO9.out, HR9.out, HK9.out⟩
                  case measure => simp [intOf]; omega
                · have hc3b : ((c : Int) != 3) = true := by simp; omega
                  rw [if_neg hc3] at ha2
                  have hu3 := quint_at w.heap.size s2 0 we HRe.out
                  generalize V.uintF s2 0 = c3 at ha2 hu3
                  obtain ⟨m, s3, x3⟩ := c3
                  simp only at ha2 hu3
                  have HU3 := Lib.hid hu3
                  have HA3 := Lib.hid ha2
                  clear ha2 hu3 HA2 HA1
                  go_wp2_with fail
                  refine HU3.out.mono ?_
                  rintro e wf ⟨rfl, rf, of⟩
                  have HRf := Lib.hid rf
                  have HIf := Lib.hid (HIe.out.only of (by omega))
                  have HOf := Lib.hid (HOe.out.only of (by omega))
                  have HKWf := Lib.hid (Only.made HKWe.out of (Nat.le_refl _))
                  have ef := rf.err
                  clear rf of HU3 HRe HIe HOe HKWe hst hst2 hst3 hld kb ke hsx hsx2
                  by_cases hx3 : x3 = 0
                  · subst hx3
                    have ha3 := HA3.out
                    rw [if_neg (by simp)] at ha3
                    by_cases hm : 65535 ≤ m
                    · have hmd : decide ((65535 : Int) ≤ m) = true := decide_eq_true (by omega)
                      have HRX := Lib.hid (HOE.out 1 (by rw [ha3, if_pos hm]))
                      clear hm ha3
                      go_wp2
                      go_ret2
                      rw [HRX.out]
                      exact ⟨rfl, by decide, HKWf.out⟩
                    · have hmd : decide ((65535 : Int) ≤ m) = false := decide_eq_false (by omega)
                      rw [if_neg hm] at ha3
                      have Hm := Lib.hid hm
                      have hu4 := quint_at w.heap.size s3 0 wf HRf.out
                      generalize V.uintF s3 0 = c4 at ha3 hu4
                      obtain ⟨q, s4, x4⟩ := c4
                      simp only at ha3 hu4
                      have HU4 := Lib.hid hu4
                      have HA4 := Lib.hid ha3
                      clear ha3 hu4 HA3 hm
                      go_wp2_with fail
                      refine HU4.out.mono ?_
                      rintro e wg ⟨rfl, rg, og⟩
                      have HRg := Lib.hid rg
                      have HIg := Lib.hid (HIf.out.only og (by omega))
                      have HOg := Lib.hid (HOf.out.only og (by omega))
                      have HKWg := Lib.hid (Only.made HKWf.out og (Nat.le_refl _))
                      have eg := rg.err
                      clear rg og HU4 HRf HIf HOf HKWf ef
                      by_cases hx4 : x4 = 0
                      · subst hx4
                        have ha4 := HA4.out
                        rw [if_neg (by simp)] at ha4
                        by_cases hq : 4294967296 ≤ q
                        · have hqd : decide ((4294967296 : Int) ≤ q) = true := decide_eq_true (by omega)
                          have HRX := Lib.hid (HOE.out 7 (by rw [ha4, if_pos hq]))
                          clear hq ha4
                          go_wp2
                          go_ret2
                          rw [HRX.out]
                          exact ⟨rfl, by decide, HKWg.out⟩
                        · have hqd : decide ((4294967296 : Int) ≤ q) = false := decide_eq_false (by omega)
                          rw [if_neg hq] at ha4
                          have HRZ := Lib.hid (HOO.out _ _ ha4)
                          have hml : (m : Int) < 65535 := by have := Hm.out; omega
                          have hql : (q : Int) < 4294967296 := by omega
                          have cm := HIg.out.metric
                          have fm := HIg.out.free 19
                          have HIh := Lib.hid (HIg.out.setMetric m)
                          have cs := HIh.out.seq
                          have fs := HIh.out.free 20
                          have HIi := Lib.hid (HIh.out.setSeq q)
                          have hoi : Only wa.heap.size wg ((wg.setCell ⟨wa.heap.size, 19, none⟩ (.int .i64 (m : Int))).setCell ⟨wa.heap.size, 20, none⟩ (.int .u32 (q : Int))) := (Only.setCell _ _ _ _).trans (Only.setCell _ _ _ _)
                          have HOi := Lib.hid (HOg.out.otherB hoi HNB.out)
                          have HRi := Lib.hid (show Rd _ w.heap.size s4 0 from HRg.out.other hoi (by omega) HRg.out.lt)
                          have HKWi := Lib.hid (Only.made HKWg.out hoi (by omega))
                          have f1' := HIi.out.whole HN.out
                          have HS1 := Lib.hid (slice_inc ⟨(c : Nat), ⟨p, m, q, hp16⟩⟩)
                          have HW1 := Lib.hid (fun w => Row.inc w ⟨(c : Nat), ⟨p, m, q, hp16⟩⟩)
                          simp only at f1'
                          generalize hX : (⟨(c : Nat), ⟨p, m, q, hp16⟩⟩ : Ic) = X at *
                          clear ha4 HA4 hoi hX hq
                          go_wp2_with (first | ((with_reducible refine at_slice [(0, .agg (ic X))] ?_ _ (HS1.out _) ?_); rfl) | (at_builtin; refine wp_app elI rfl _ _ rfl (w.heap.size + 1) _ _ T [X] rfl rfl (HOi.out.keep ((Keep.refl _).alloc _)) (HW1.out _).cells ?qb1 ?qb2 ?qb3 ?_))
                          case qb1 => rw [HTL.out]; simp; omega
                          case qb2 => rw [HTL.out]; simp; omega
                          case qb3 => have := HRi.out.lt; simp at this ⊢; omega
                          intro v9 w9 k1 k2
                          have HO9 := Lib.hid k1
                          have HR9 := Lib.hid (Rd.app (HRi.out.below ((Keep.refl _).alloc _)) (HOi.out.keep ((Keep.refl _).alloc _)) (by omega) k2)
                          have HK9 := Lib.hid ((HOi.out.keep ((Keep.refl _).alloc _)).grown (HKWi.out.alloc _) (by omega) k2)
                          have HTL9 := Lib.hid (show (T ++ [X]).length = J + 1 from by rw [List.length_append, HTL.out]; rfl)
                          clear k1 k2 f1'
                          go_wp2
                          go_roundw
                          case rel => exact ⟨T ++ [X], s4, by rw [HTL9.out]; go_num, by rw [HTL9.out]; omega, by rw [HRZ.out, HTL9.out, show N - (J + 1) = K by have := HKK.out; omega], HO9.out, HR9.out, HK9.out⟩
                          case measure => simp [intOf]; omega
                      · have hx4b : (x4 != 0) = true := by simpa using hx4
                        have HRX := Lib.hid (HOE.out x4 (by rw [HA4.out, if_pos hx4]))
                        go_wp2_with fail
                        have c1 : ∀ u : KW wg, u.1.cell? ⟨w.heap.size, 1, none⟩ = some (.int .i64 x4) := fun u => (HRg.out.below u.2).err
                        refine wp_region_keep (Keep.refl wg) (by kernel_rfl) (by kernel_rfl) ?_
                        repeat (first | go_big_quiet_step (fail) | quiet_step (fail))
                        refine wpQuiet_nil ?_
                        rintro w6 ⟨⟨w7, b6⟩, rfl⟩
                        go_wp2
                        go_ret2
                        rw [HRX.out]
                        exact ⟨rfl, hx4, HKWg.out.trans b6⟩
                  · have hx3b : (x3 != 0) = true := by simpa using hx3
                    have HRX := Lib.hid (HOE.out x3 (by rw [HA3.out, if_pos hx3]))
                    go_wp2_with fail
                    have c1 : ∀ u : KW wf, u.1.cell? ⟨w.heap.size, 1, none⟩ = some (.int .i64 x3) := fun u => (HRf.out.below u.2).err
                    refine wp_region_keep (Keep.refl wf) (by kernel_rfl) (by kernel_rfl) ?_
                    repeat (first | go_big_quiet_step (fail) | quiet_step (fail))
                    refine wpQuiet_nil ?_
                    rintro w6 ⟨⟨w7, b6⟩, rfl⟩
                    go_wp2
                    go_ret2
                    rw [HRX.out]
                    exact ⟨rfl, hx3, HKWf.out.trans b6⟩
              · have hx2b : (x2 != 0) = true := by simpa using hx2
                have HRX := Lib.hid (HOE.out x2 (by rw [HA2.out, if_pos hx2]))
                go_wp2
                go_ret2
                rw [HRX.out]
                exact ⟨rfl, hx2, HKWd.out⟩
            · have HRX := Lib.hid (HOE.out 4 (by rw [ha1, if_pos hk]))
              clear ha1
              by_cases hk1 : c < 1
              · have hk1i : (c : Int) < 1 := by omega
                go_wp2_with ((with_reducible refine at_build (t := 59) [(0, .int .i64 (c : Nat))] ?_ (.agg (ic ⟨c, zeroR⟩)) ?_ ?_); rfl; exact HBK.out _)
                go_ret2
                rw [HRX.out]
                exact ⟨rfl, by decide, HKWb.out⟩
              · have hk1i : ¬ ((c : Int) < 1) := by omega
                have hk2i : (c : Int) > 3 := by omega
                go_wp2_with ((with_reducible refine at_build (t := 59) [(0, .int .i64 (c : Nat))] ?_ (.agg (ic ⟨c, zeroR⟩)) ?_ ?_); rfl; exact HBK.out _)
                go_ret2
                rw [HRX.out]
                exact ⟨rfl, by decide, HKWb.out⟩
          · have hxab : (xa != 0) = true := by simpa using hxa
            have HRX := Lib.hid (HOE.out xa (by rw [HA1.out, if_pos hxa]))
            go_wp2_with ((with_reducible refine at_build (t := 59) [(0, .int .i64 (c : Nat))] ?_ (.agg (ic ⟨c, zeroR⟩)) ?_ ?_); rfl; exact HBK.out _)
            have c1 : ∀ u : KW wb, u.1.cell? ⟨w.heap.size, 1, none⟩ = some (.int .i64 xa) := fun u => (HRb.out.below u.2).err
            refine wp_region_keep (Keep.refl wb) (by kernel_rfl) (by kernel_rfl) ?_
            repeat (first | go_big_quiet_step (fail) | quiet_step (fail))
            refine wpQuiet_nil ?_
            rintro w6 ⟨⟨w7, b6⟩, rfl⟩
            go_wp2
            go_ret2
            rw [HRX.out]
            exact ⟨rfl, hxa, HKWb.out.trans b6⟩
        · have hlti : ¬ (J : Int) < N := by omega
          have HRE := Lib.hid (show Q = .ok (T, s') from by rw [HEQ.out, show N - J = 0 by omega]; simp [readN8, preI])
          have HR2 := Lib.hid (show R = if s' = [] then .ok T else .error 4 from by rw [HR0.out, HRE.out])
          have cr := HRr.out.rest
          by_cases hs' : s' = []
          · rw [if_pos hs'] at HR2
            subst hs'
            go_wp2
            go_ret2
            rw [HR2.out]
            exact ⟨_, rfl, HO.out.down (by omega), HKWr.out⟩
          · rw [if_neg hs'] at HR2
            have g1 : ((⟨s'.toArray⟩ : ByteArray) == ⟨#[]⟩) = false := by
              apply Bool.eq_false_iff.2
              intro h
              rw [MapKept.bytes_beq] at h
              simp at h
              exact hs' h
            have g2 : s'.isEmpty = false := by cases s' <;> simp_all
            go_wp2
            go_ret2
            rw [HR2.out]
            exact ⟨rfl, by decide, HKWr.out⟩
  · have hx1b : (x1 != 0) = true := by simpa using hx1
    rw [if_pos hx1] at HR0
    have c1 : ∀ u : KW w1, u.1.cell? ⟨w.heap.size, 1, none⟩ = some (.int .i64 x1) := fun u => (HRd1.out.below u.2).err
    go_wp2_with fail
    refine wp_region_keep (Keep.refl w1) (by kernel_rfl) (by kernel_rfl) ?_
    repeat (first | go_big_quiet_step (fail) | quiet_step (fail))
    refine wpQuiet_nil ?_
    rintro w6 ⟨⟨w7, b6⟩, rfl⟩
    go_wp2
    go_ret2
    rw [HR0.out]
    exact ⟨rfl, hx1, HKW1.out.trans b6⟩
end Go.Proofs.YtgkgpdlakamgiaaGreat
