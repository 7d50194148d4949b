/- Proved: what Read of the document answers, and what becomes of memory. Condition: the reader's two cells are known (Rd). -/
import Derived.Test.YtabniphnmlbkfaaDoorH
namespace Go.Proofs.YtabniphnmlbkfaaDoor
open Go.RowKit

theorem tail_err (l : List UInt8) (x : Int) (hx : x ≠ 0) : tailF 0 l x = (zeroP, x, l, x) := by
  have h1 : V.rawF l x (needN (lenOf 0) : Nat) = ([], l, x) := by unfold V.rawF; rw [if_pos hx]
  unfold tailF
  rw [h1]
  simp only
  rw [if_neg hx]
  rfl
theorem byte_err (l : List UInt8) (x : Int) (h : (V.byteF l x).2.2 ≠ 0) : (V.byteF l x).1.toNat = 0 := by
  unfold V.byteF at h ⊢
  by_cases hx : x ≠ 0
  · rw [if_pos hx]; rfl
  · rw [if_neg hx] at h ⊢
    cases l with
    | nil => rfl
    | cons c r => simp at h
theorem padL_set (T : List UInt8) (i : Nat) (hi : i < T.length) (_hT : T.length ≤ 16) : (padL (T.take i)).set i (UInt8.ofNat T[i].toNat) = padL (T.take (i + 1)) := by
  have hl := padL_len (T.take i)
  apply List.ext_getElem (by rw [List.length_set, padL_len, padL_len])
  intro j h1 h2
  have hj : j < 16 := by rw [List.length_set, padL_len] at h1; exact h1
  have g1 := padL_get (T.take i) j hj
  have g2 := padL_get (T.take (i + 1)) j hj
  rw [take_get] at g1 g2
  simp only [List.getD_eq_getElem?_getD, List.getElem?_eq_getElem (show j < (padL (T.take i)).length by omega), Option.getD_some] at g1
  simp only [List.getD_eq_getElem?_getD, List.getElem?_eq_getElem h2, Option.getD_some] at g2
  rw [List.getElem_set, g2]
  by_cases e : i = j
  · subst e
    rw [if_pos rfl, if_pos (by omega)]
    simp [hi]
  · rw [if_neg e, g1]
    by_cases h3 : j < i
    · rw [if_pos h3, if_pos (by omega)]
    · rw [if_neg h3, if_neg (by omega)]

def QRRel (w : World) (b r g : Nat) (s : Bool) (n : Nat) (T : List UInt8) (l : List UInt8) (x : Int) (i : Value) (wr : World) : Prop :=
  ∃ k : Nat, i = .int .i64 k ∧ k ≤ T.length ∧ Ready w wr b r g ⟨s, padL (T.take k), n⟩ l x
theorem Ready.byte {w w3 : World} {b r g : Nat} {p : Px} {l : List UInt8} {x : Int} (h : Ready w w3 b r g p l x) (i : Nat) (hi : i < 16) (c : Nat) (hc : c < 256) : Ready w (w3.setCell ⟨g, 1 + i, none⟩ (.int .u8 (c : Nat))) b r g ⟨p.six, p.addr.set i (UInt8.ofNat c), p.len⟩ l x :=
  ⟨h.res.setOther _ _ _ h.rg, h.pre.setByte i hi c hc, h.rd.cell _ _ _ (Ne.symm h.gb), h.only.cellNew _ _ _ h.gn, h.rb, h.gb, h.rg, h.rn, h.gn⟩

set_option maxRecDepth 100000 in
set_option maxHeartbeats 2000000 in
theorem qread_at (b : Nat) (l : List UInt8) (x : Int) (w : World) (h : Rd w b l x) : Calls Tryd.prog 25 #[.pointer (some ⟨b, 0, none⟩)] w (TakePost b w (takeF l x)) := by
  obtain ⟨hz, hi⟩ := zero_of_info info24
  have hby := qbyte_at b l x (w.alloc (.cells (pc zeroP) 24)) (h.same ((Same.refl w).alloc _))
  unfold takeF
  have hbw : b < w.heap.size := h.lt
  have HE := Lib.hid (byte_err l x)
  generalize (V.byteF l x).2.1 = l1 at *
  generalize (V.byteF l x).2.2 = x1 at *
  have hc : (V.byteF l x).1.toNat < 256 := UInt8.toNat_lt _
  generalize (V.byteF l x).1.toNat = c at *
  obtain ⟨n2, hn2⟩ : ∃ n, n = 18 := ⟨18, rfl⟩
  have hsz2 : ∀ w, (Go.sizeOf 24).run Tryd.prog w = .ok n2 w := fun w => by rw [hn2]; exact Tryd.sizeOf24 w
  obtain ⟨n1, hn1⟩ : ∃ n, n = 16 := ⟨16, rfl⟩
  have hsz1 : ∀ w, (Go.sizeOf 22).run Tryd.prog w = .ok n1 w := fun w => by rw [hn1]; exact Tryd.sizeOf22 w
  have hn0 : ¬ n1 = 0 := by omega
  have hzs : (pc zeroP).size = n2 := by rw [hn2]; exact pc_size _ rfl
  obtain ⟨hA, hS⟩ := one_at w zeroP zeroP_len
  have HA := Lib.hid hA
  have HS := Lib.hid hS
  have HN2 := Lib.hid hn2
  have HN1 := Lib.hid hn1
  have HB := Lib.hid hby
  clear hA hS hn2 hn1 hi hby h
  go_enter Tryd.func25, Tryd.ntmps25
  go_wp2_with fail
  refine HB.out.mono ?_
  rintro e w2 ⟨rfl, hr2, ho2⟩
  have hs1 : (w.alloc (.cells (pc zeroP) 24)).heap.size = w.heap.size + 1 := by simp
  have hs2 := ho2.size
  have HO2 := Lib.hid ((Only.same (b := b) HS.out).trans ho2)
  have HA2 := Lib.hid (HA.out.only ho2 (by omega))
  have HR2 := Lib.hid hr2
  have e1 := HR2.out.err
  clear hr2 ho2 HA HS HB
  by_cases hx1 : x1 = 0
  · subst hx1
    have z1 : (pc zeroP).size = 18 := pc_size _ rfl
    have hne : pc zeroP ≠ #[] := by intro h; rw [h] at z1; simp at z1
    have f3 := set_len zeroP rfl c
    have hA3 : At (w2.alloc (.cells (pc zeroP) 24)) w2.heap.size zeroP := (one_at w2 zeroP rfl).1
    have z4 : (pc ⟨zeroP.six, zeroP.addr, c⟩).size = n2 := by rw [HN2.out]; exact pc_size _ rfl
    have hst := hA3.store ⟨zeroP.six, zeroP.addr, c⟩ rfl
    have HR3 := Lib.hid (show Ready w ((w2.alloc (.cells (pc zeroP) 24)).setRow w2.heap.size (pc ⟨zeroP.six, zeroP.addr, c⟩)) b w.heap.size w2.heap.size ⟨false, zl, c⟩ l1 0 from
      ⟨(HA2.out.mono ((Same.refl w2).alloc _)).row _ _ (by omega), hA3.put ⟨zeroP.six, zeroP.addr, c⟩ rfl, (HR2.out.same ((Same.refl w2).alloc _)).row _ _ (by omega), (HO2.out.allocNew _).rowNew _ _ (by omega), by omega, by omega, by omega, by omega, by omega⟩)
    obtain ⟨w3, hw3⟩ : ∃ w3, (w2.alloc (.cells (pc zeroP) 24)).setRow w2.heap.size (pc ⟨zeroP.six, zeroP.addr, c⟩) = w3 := ⟨_, rfl⟩
    rw [hw3] at hst HR3
    obtain ⟨g, hg⟩ : ∃ g, w2.heap.size = g := ⟨_, rfl⟩
    have HG := Lib.hid hg
    rw [hg] at hst HR3
    clear hw3 HA2 HO2 HR2 hA3
    by_cases h64 : 64 ≤ c
    · obtain ⟨m, hm64⟩ : ∃ m : Nat, (c : Int) - 64 = m := ⟨c - 64, by omega⟩
      have hS : sixOf c = true := by simp [sixOf, h64]
      have hL : lenOf c = m := by unfold lenOf; rw [if_pos h64]; omega
      have f1 := set_six zeroP true
      have f4 := set_len ⟨true, zeroP.addr, zeroP.len⟩ rfl m
      have z2 : (pc ⟨true, zeroP.addr, zeroP.len⟩).size = 18 := pc_size _ rfl
      have z5 : (pc ⟨true, zeroP.addr, m⟩).size = n2 := by rw [HN2.out]; exact pc_size _ rfl
      have hst2 := HR3.out.pre.store ⟨true, zeroP.addr, m⟩ rfl
      have HR6 := Lib.hid (show Ready w (w3.setRow g (pc ⟨true, zeroP.addr, m⟩)) b w.heap.size g ⟨true, zl, (m : Nat)⟩ l1 0 from HR3.out.fill ⟨true, zeroP.addr, m⟩ rfl)
      simp only at f4
      obtain ⟨w6, hw6⟩ : ∃ w6, w3.setRow g (pc ⟨true, zeroP.addr, m⟩) = w6 := ⟨_, rfl⟩
      rw [hw6] at hst2 HR6
      clear hw6 HR3
      go_wp2_with fail
      clear f1 f3 f4 z2 z4 z5 hst hst2 hm64 e1
      have d0 : ∀ u : SW w6, u.1.cell? ⟨g, 0, none⟩ = some (.bool true) := fun u => (HR6.out.pre.mono u.2).six
      have d17 : ∀ u : SW w6, u.1.cell? ⟨g, 17, none⟩ = some (.int .i64 (m : Nat)) := fun u => (HR6.out.pre.mono u.2).bits
      have Hmo := Lib.hid (most_at true)
      have hfm : fitsB true ((m : Nat) : Int) = true ↔ m ≤ 8 * sizeN true := by simp [fitsB]; omega
      by_cases hfit : m ≤ 8 * sizeN true
      · have HT := Lib.hid (show tailF c l1 0 = if (V.rawF l1 0 (needN m : Nat)).2.2 = 0 then (if rightP ⟨true, padL (V.rawF l1 0 (needN m : Nat)).1, (m : Nat)⟩ then (⟨true, padL (V.rawF l1 0 (needN m : Nat)).1, (m : Nat)⟩, 0, (V.rawF l1 0 (needN m : Nat)).2.1, 0) else (zeroP, 4, (V.rawF l1 0 (needN m : Nat)).2.1, 0)) else (zeroP, (V.rawF l1 0 (needN m : Nat)).2.2, (V.rawF l1 0 (needN m : Nat)).2.1, (V.rawF l1 0 (needN m : Nat)).2.2) by
          rw [tailF, hS, hL, if_pos (hfm.2 hfit)])
        have hm : m ≤ 128 := by simp [sizeN] at hfit; omega
        have hfz : (m : Int) ≤ 8 * (sizeN true : Nat) := by omega
        have Hraw := Lib.hid (qraw_at b (needN m : Nat) l1 0)
        have hT16 := raw_len l1 0 (needN m) (by unfold needN; omega)
        generalize (V.rawF l1 0 (needN m : Nat)).1 = T at *
        generalize (V.rawF l1 0 (needN m : Nat)).2.1 = l2 at *
        generalize (V.rawF l1 0 (needN m : Nat)).2.2 = x2 at *
        go_wp2_with fail
        refine wp_region_same (Same.refl _) (by kernel_rfl) (by kernel_rfl) ?_
        repeat (first | go_big_quiet_step (exact Hmo.out.at _) | quiet_step (exact Hmo.out.at _))
        refine wpQuiet_nil ?_
        rintro w4 ⟨⟨w4', b4⟩, rfl⟩
        have HR4 := Lib.hid (HR6.out.mono b4)
        have e17 : w4.cell? ⟨g, 17, none⟩ = some (.int .i64 (m : Nat)) := HR4.out.pre.bits
        clear HR6 b4 d0 d17 hfm hfit Hmo
        go_wp2_with fail
        rw [show ((m : Int) + 7) / 8 = ((needN m : Nat) : Int) by unfold needN; omega]
        refine (Hraw.out _ HR4.out.rd).mono ?_
        rintro e w5 ⟨rfl, hr5, ho5⟩
        have HR5 := Lib.hid (HR4.out.read hr5 ho5)
        have e5 := HR5.out.rd.err
        clear HR4 hr5 ho5 e17 hfz Hraw
        by_cases hx : x2 = 0
        · subst hx
          have HT2 := Lib.hid (HT.out.trans (if_pos rfl))
          clear HT
          go_wp2_with fail
          clear e5
          go_loopw [7] (fun i wr => QRRel w b w.heap.size g true m T l2 0 i wr) (fun i _ => 17 - (intOf i).toNat)
          case atStart => exact ⟨0, rfl, by omega, HR5.out⟩
          case round =>
            obtain ⟨k, rfl, hk, hrd⟩ := hrel
            have HRr := Lib.hid hrd
            clear hrd HR5
            by_cases hk2 : k < T.length
            · have hk16 : k < 16 := by omega
              have hcell := HRr.out.pre.byte k hk16
              have hfree := HRr.out.pre.free (1 + k)
              have hge2 : ∀ h, (({ data := T.toArray } : ByteArray)[k]'h) = T[k] := fun _ => rfl
              have HB9 := Lib.hid (HRr.out.byte k hk16 T[k].toNat (UInt8.toNat_lt _))
              simp only [padL_set T k hk2 hT16] at HB9
              go_wp2
              go_roundw
              case rel => exact ⟨k + 1, by go_num, by omega, HB9.out⟩
              case measure => simp [intOf]; omega
            · obtain rfl : k = T.length := by omega
              rw [List.take_length] at HRr
              have hq := Lib.hid (qright ⟨true, padL T, (m : Nat)⟩ (padL_len T))
              have hp16 : (⟨true, padL T, (m : Nat)⟩ : Px).addr.length = 16 := padL_len T
              generalize (⟨true, padL T, (m : Nat)⟩ : Px) = P at *
              have hps : (pc P).size = n2 := by rw [HN2.out]; exact pc_size _ hp16
              have hwp := HRr.out.pre.whole HN2.out
              go_wp2_with fail
              refine (hq.out _).mono ?_
              rintro e w7 ⟨rfl, b7⟩
              have HR7 := Lib.hid (HRr.out.mono b7)
              have hwp7 := HR7.out.pre.whole HN2.out
              clear HRr b7 hwp hq
              by_cases hr : rightP P
              · rw [decide_eq_true hr]
                have hst := HR7.out.res.store P hp16
                have hld := (HR7.out.res.put P hp16).whole HN2.out
                go_wp2
                refine bodyPost_ret (v := .tuple #[.agg (pc P), .int .i64 0]) ?_ rfl ?_
                · simp [results, Tryd.results25, go_sem, hsz2, hld]
                · rw [HT2.out, if_pos hr]
                  exact ⟨rfl, HR7.out.rd.row _ _ (Ne.symm HR7.out.rb), HR7.out.only.rowNew _ _ HR7.out.rn⟩
              · rw [decide_eq_false hr]
                have hst := HR7.out.res.store zeroP rfl
                have hld := (HR7.out.res.put zeroP rfl).whole HN2.out
                go_wp2
                refine bodyPost_ret (v := .tuple #[.agg (pc zeroP), .int .i64 4]) ?_ rfl ?_
                · simp [results, Tryd.results25, go_sem, hsz2, hld]
                · rw [HT2.out, if_neg hr]
                  exact ⟨rfl, HR7.out.rd.row _ _ (Ne.symm HR7.out.rb), HR7.out.only.rowNew _ _ HR7.out.rn⟩
        · have HT2 := Lib.hid (HT.out.trans (if_neg hx))
          clear HT
          have hst := HR5.out.drew.res.store zeroP rfl
          have hld := (HR5.out.drew.res.put zeroP rfl).whole HN2.out
          have e2 := (HR5.out.drew.rd.row w.heap.size (pc zeroP) (Ne.symm HR5.out.rb)).err
          go_wp2_with fail
          go_region
          go_wp2
          refine bodyPost_ret (v := .tuple #[.agg (pc zeroP), .int .i64 x2]) ?_ rfl ?_
          · simp [results, Tryd.results25, go_sem, hsz2, hld]
          · rw [HT2.out]
            exact ⟨rfl, HR5.out.drew.rd.row _ _ (Ne.symm HR5.out.rb), HR5.out.drew.only.rowNew _ _ HR5.out.rn⟩
      · have HT := Lib.hid (show tailF c l1 0 = (zeroP, 4, l1, 0) by rw [tailF, hS, hL, if_neg (by rw [hfm]; exact hfit)])
        have hfz : ¬ (m : Int) ≤ 8 * (sizeN true : Nat) := by omega
        go_wp2_with fail
        refine wp_region_same (Same.refl _) (by kernel_rfl) (by kernel_rfl) ?_
        repeat (first | go_big_quiet_step (exact Hmo.out.at _) | quiet_step (exact Hmo.out.at _))
        refine wpQuiet_nil ?_
        rintro w4 ⟨⟨w4', b4⟩, rfl⟩
        have HR4 := Lib.hid (HR6.out.mono b4)
        have hst := HR4.out.res.store zeroP rfl
        have hld := (HR4.out.res.put zeroP rfl).whole HN2.out
        go_wp2
        refine bodyPost_ret (v := .tuple #[.agg (pc zeroP), .int .i64 4]) ?_ rfl ?_
        · simp [results, Tryd.results25, go_sem, hsz2, hld]
        · rw [HT.out]
          exact ⟨rfl, HR4.out.rd.row _ _ (Ne.symm HR4.out.rb), HR4.out.only.rowNew _ _ HR4.out.rn⟩
    · have hS : sixOf c = false := by simp [sixOf]; omega
      have hL : lenOf c = c := by unfold lenOf; rw [if_neg h64]
      go_wp2_with fail
      clear f3 z4 hst e1
      have d0 : ∀ u : SW w3, u.1.cell? ⟨g, 0, none⟩ = some (.bool false) := fun u => (HR3.out.pre.mono u.2).six
      have d17 : ∀ u : SW w3, u.1.cell? ⟨g, 17, none⟩ = some (.int .i64 (c : Nat)) := fun u => (HR3.out.pre.mono u.2).bits
      have Hmo := Lib.hid (most_at false)
      have hfm : fitsB false ((c : Nat) : Int) = true ↔ c ≤ 8 * sizeN false := by simp [fitsB]; omega
      by_cases hfit : c ≤ 8 * sizeN false
      · have HT := Lib.hid (show tailF c l1 0 = if (V.rawF l1 0 (needN c : Nat)).2.2 = 0 then (if rightP ⟨false, padL (V.rawF l1 0 (needN c : Nat)).1, (c : Nat)⟩ then (⟨false, padL (V.rawF l1 0 (needN c : Nat)).1, (c : Nat)⟩, 0, (V.rawF l1 0 (needN c : Nat)).2.1, 0) else (zeroP, 4, (V.rawF l1 0 (needN c : Nat)).2.1, 0)) else (zeroP, (V.rawF l1 0 (needN c : Nat)).2.2, (V.rawF l1 0 (needN c : Nat)).2.1, (V.rawF l1 0 (needN c : Nat)).2.2) by
          rw [tailF, hS, hL, if_pos (hfm.2 hfit)])
        have hm : c ≤ 128 := by simp [sizeN] at hfit; omega
        have hfz : (c : Int) ≤ 8 * (sizeN false : Nat) := by omega
        have Hraw := Lib.hid (qraw_at b (needN c : Nat) l1 0)
        have hT16 := raw_len l1 0 (needN c) (by unfold needN; omega)
        generalize (V.rawF l1 0 (needN c : Nat)).1 = T at *
        generalize (V.rawF l1 0 (needN c : Nat)).2.1 = l2 at *
        generalize (V.rawF l1 0 (needN c : Nat)).2.2 = x2 at *
        go_wp2_with fail
        refine wp_region_same (Same.refl _) (by kernel_rfl) (by kernel_rfl) ?_
        repeat (first | go_big_quiet_step (exact Hmo.out.at _) | quiet_step (exact Hmo.out.at _))
        refine wpQuiet_nil ?_
        rintro w4 ⟨⟨w4', b4⟩, rfl⟩
        have HR4 := Lib.hid (HR3.out.mono b4)
        have e17 : w4.cell? ⟨g, 17, none⟩ = some (.int .i64 (c : Nat)) := HR4.out.pre.bits
        clear HR3 b4 d0 d17 hfm hfit Hmo
        go_wp2_with fail
        rw [show ((c : Int) + 7) / 8 = ((needN c : Nat) : Int) by unfold needN; omega]
        refine (Hraw.out _ HR4.out.rd).mono ?_
        rintro e w5 ⟨rfl, hr5, ho5⟩
        have HR5 := Lib.hid (HR4.out.read hr5 ho5)
        have e5 := HR5.out.rd.err
        clear HR4 hr5 ho5 e17 hfz Hraw
        by_cases hx : x2 = 0
        · subst hx
          have HT2 := Lib.hid (HT.out.trans (if_pos rfl))
          clear HT
          go_wp2_with fail
          clear e5
          go_loopw [7] (fun i wr => QRRel w b w.heap.size g false c T l2 0 i wr) (fun i _ => 17 - (intOf i).toNat)
          case atStart => exact ⟨0, rfl, by omega, HR5.out⟩
          case round =>
            obtain ⟨k, rfl, hk, hrd⟩ := hrel
            have HRr := Lib.hid hrd
            clear hrd HR5
            by_cases hk2 : k < T.length
            · have hk16 : k < 16 := by omega
              have hcell := HRr.out.pre.byte k hk16
              have hfree := HRr.out.pre.free (1 + k)
              have hge2 : ∀ h, (({ data := T.toArray } : ByteArray)[k]'h) = T[k] := fun _ => rfl
              have HB9 := Lib.hid (HRr.out.byte k hk16 T[k].toNat (UInt8.toNat_lt _))
              simp only [padL_set T k hk2 hT16] at HB9
              go_wp2
              go_roundw
              case rel => exact ⟨k + 1, by go_num, by omega, HB9.out⟩
              case measure => simp [intOf]; omega
            · obtain rfl : k = T.length := by omega
              rw [List.take_length] at HRr
              have hq := Lib.hid (qright ⟨false, padL T, (c : Nat)⟩ (padL_len T))
              have hp16 : (⟨false, padL T, (c : Nat)⟩ : Px).addr.length = 16 := padL_len T
              generalize (⟨false, padL T, (c : Nat)⟩ : Px) = P at *
              have hps : (pc P).size = n2 := by rw [HN2.out]; exact pc_size _ hp16
              have hwp := HRr.out.pre.whole HN2.out
              go_wp2_with fail
              refine (hq.out _).mono ?_
              rintro e w7 ⟨rfl, b7⟩
              have HR7 := Lib.hid (HRr.out.mono b7)
              have hwp7 := HR7.out.pre.whole HN2.out
              clear HRr b7 hwp hq
              by_cases hr : rightP P
              · rw [decide_eq_true hr]
                have hst := HR7.out.res.store P hp16
                have hld := (HR7.out.res.put P hp16).whole HN2.out
                go_wp2
                refine bodyPost_ret (v := .tuple #[.agg (pc P), .int .i64 0]) ?_ rfl ?_
                · simp [results, Tryd.results25, go_sem, hsz2, hld]
                · rw [HT2.out, if_pos hr]
                  exact ⟨rfl, HR7.out.rd.row _ _ (Ne.symm HR7.out.rb), HR7.out.only.rowNew _ _ HR7.out.rn⟩
              · rw [decide_eq_false hr]
                have hst := HR7.out.res.store zeroP rfl
                have hld := (HR7.out.res.put zeroP rfl).whole HN2.out
                go_wp2
                refine bodyPost_ret (v := .tuple #[.agg (pc zeroP), .int .i64 4]) ?_ rfl ?_
                · simp [results, Tryd.results25, go_sem, hsz2, hld]
                · rw [HT2.out, if_neg hr]
                  exact ⟨rfl, HR7.out.rd.row _ _ (Ne.symm HR7.out.rb), HR7.out.only.rowNew _ _ HR7.out.rn⟩
        · have HT2 := Lib.hid (HT.out.trans (if_neg hx))
          clear HT
          have hst := HR5.out.drew.res.store zeroP rfl
          have hld := (HR5.out.drew.res.put zeroP rfl).whole HN2.out
          have e2 := (HR5.out.drew.rd.row w.heap.size (pc zeroP) (Ne.symm HR5.out.rb)).err
          go_wp2_with fail
          go_region
          go_wp2
          refine bodyPost_ret (v := .tuple #[.agg (pc zeroP), .int .i64 x2]) ?_ rfl ?_
          · simp [results, Tryd.results25, go_sem, hsz2, hld]
          · rw [HT2.out]
            exact ⟨rfl, HR5.out.drew.rd.row _ _ (Ne.symm HR5.out.rb), HR5.out.drew.only.rowNew _ _ HR5.out.rn⟩
      · have HT := Lib.hid (show tailF c l1 0 = (zeroP, 4, l1, 0) by rw [tailF, hS, hL, if_neg (by rw [hfm]; exact hfit)])
        have hfz : ¬ (c : Int) ≤ 8 * (sizeN false : Nat) := by omega
        go_wp2_with fail
        refine wp_region_same (Same.refl _) (by kernel_rfl) (by kernel_rfl) ?_
        repeat (first | go_big_quiet_step (exact Hmo.out.at _) | quiet_step (exact Hmo.out.at _))
        refine wpQuiet_nil ?_
        rintro w4 ⟨⟨w4', b4⟩, rfl⟩
        have HR4 := Lib.hid (HR3.out.mono b4)
        have hst := HR4.out.res.store zeroP rfl
        have hld := (HR4.out.res.put zeroP rfl).whole HN2.out
        go_wp2
        refine bodyPost_ret (v := .tuple #[.agg (pc zeroP), .int .i64 4]) ?_ rfl ?_
        · simp [results, Tryd.results25, go_sem, hsz2, hld]
        · rw [HT.out]
          exact ⟨rfl, HR4.out.rd.row _ _ (Ne.symm HR4.out.rb), HR4.out.only.rowNew _ _ HR4.out.rn⟩
  · have hst := (HA2.out.mono (Same.refl w2).drew).store zeroP rfl
    have hld := ((HA2.out.mono (Same.refl w2).drew).put zeroP rfl).whole HN2.out
    have HT := Lib.hid (show tailF c l1 x1 = (zeroP, x1, l1, x1) by rw [HE.out hx1]; exact tail_err l1 x1 hx1)
    have e2 := ((HR2.out.same (Same.refl w2).drew).row w.heap.size (pc zeroP) (by omega)).err
    go_wp2_with fail
    go_region
    go_wp2
    refine bodyPost_ret (v := .tuple #[.agg (pc zeroP), .int .i64 x1]) ?_ rfl ?_
    · simp [results, Tryd.results25, go_sem, hsz2, hld]
    · rw [HT.out]
      exact ⟨rfl, (HR2.out.same (Same.refl w2).drew).row _ _ (by omega), HO2.out.drewNew.rowNew _ _ (Nat.le_refl _)⟩
end Go.Proofs.YtabniphnmlbkfaaDoor
