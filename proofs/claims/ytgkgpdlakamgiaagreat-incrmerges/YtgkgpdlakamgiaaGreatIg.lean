/- Proved: what incr's stories answers. Condition: the list is short enough for memory. -/
import Derived.Test.YtgkgpdlakamgiaaGreatIf
namespace Go.Proofs.YtgkgpdlakamgiaaGreat
open Go.RowKit

def StRel (w : World) (b : Nat) (l : List Ic) (R : Option (List Sy)) (iv : Value) (wr : World) : Prop :=
  ∃ (k : Nat) (W : List Sy) (es : Array MapEntry), iv = .int .i64 k ∧ k ≤ l.length ∧ R = storS W (l.drop k) ∧ MapS wr b W es ∧ Keep w wr
def StPost (w : World) (R : Option (List Sy)) (e : Ending) (w' : World) : Prop := Keep w w' ∧ match R with
  | none => e = .returned (.tuple #[.map none, .bool false])
  | some W => ∃ b es, e = .returned (.tuple #[.map (some b), .bool true]) ∧ w.heap.size ≤ b ∧ MapS w' b W es

set_option maxRecDepth 100000 in
set_option maxHeartbeats 4000000 in
theorem istories (v : Value) (l : List Ic) (w : World) (h : Ls w v l) (hl : l.length ≤ 1000000) : Calls Tryz.prog 46 #[v] w (StPost w (storS [] l)) := by
  obtain ⟨a, cap, rfl⟩ := h.form
  obtain ⟨hz, hi⟩ := zero_of_info info43b
  obtain ⟨hz2, hi2⟩ := zero_of_info info58b
  obtain ⟨n, hn⟩ : ∃ n, n = 21 := ⟨21, rfl⟩
  have hsz : ∀ w, (Go.sizeOf 59).run Tryz.prog w = .ok n w := fun w => by rw [hn]; exact Tryz.sizeOf59 w
  have hn0 : ¬ n = 0 := by omega
  have hrn : ∀ i : Ic, (ic i).size = n := fun i => by rw [hn]; exact ic_size i
  obtain ⟨n2, hn2⟩ : ∃ n, n = 18 := ⟨18, rfl⟩
  have hsz2 : ∀ w, (Go.sizeOf 54).run Tryz.prog w = .ok n2 w := fun w => by rw [hn2]; exact Tryz.sizeOf54 w
  have hn20 : ¬ n2 = 0 := by omega
  obtain ⟨n3, hn3⟩ : ∃ n, n = 22 := ⟨22, rfl⟩
  have hsz3 : ∀ w, (Go.sizeOf 102).run Tryz.prog w = .ok n3 w := fun w => by rw [hn3]; exact Tryz.sizeOf102 w
  have hn30 : ¬ n3 = 0 := by omega
  have hsn : ∀ s : Sy, (sc s).size = n3 := fun s => by rw [hn3]; exact sc_size s
  have HN := Lib.hid hn
  have HN2 := Lib.hid hn2
  have HN3 := Lib.hid hn3
  have HL := Lib.hid h
  obtain ⟨N, hN⟩ : ∃ N, l.length = N := ⟨_, rfl⟩
  have HLN := Lib.hid hN
  rw [hN] at hl ⊢
  obtain ⟨R, hR⟩ : ∃ R, storS [] l = R := ⟨_, rfl⟩
  rw [hR]
  have HR := Lib.hid hR
  have HM := Lib.hid (MapS.made w)
  have hmm := @run_makeMap Tryz.prog
  have HKM := Lib.hid (show Keep w (w.alloc (.map #[] 0)) from (Keep.refl w).alloc _)
  clear hn hn2 hn3 h hN hR
  go_enter Tryz.func46, Tryz.ntmps46
  go_wp2
  go_loopw [13] (fun i wr => StRel w w.heap.size l R i wr) (fun i _ => N - (intOf i).toNat)
  case atStart => exact ⟨0, [], #[], rfl, Nat.zero_le _, HR.out.symm, HM.out, HKM.out⟩
  case round =>
    obtain ⟨k, W, es, rfl, hk1, hk2, hk3, hk⟩ := hrel
    rw [HLN.out] at hk1
    by_cases hlt : k < N
    · have hcl := HL.out.at k (by rw [HLN.out]; exact hlt)
      obtain ⟨g, o, cap', e, _, _, _⟩ := hcl.ptr k (by rw [HLN.out]; exact hlt)
      simp at e
      obtain ⟨rfl, rfl⟩ := e
      obtain ⟨x, hx⟩ : ∃ x, l[k]? = some x := ⟨_, List.getElem?_eq_getElem (by rw [HLN.out]; exact hlt)⟩
      have dx := (hcl.keep hk).ic HN.out k x hx
      rw [drop_cons' hx, storS] at hk2
      have HRE := Lib.hid hk2
      have HA := Lib.hid (IAt.new wr zeroI)
      have hst := HA.out.store x
      obtain ⟨w1, hw1⟩ : ∃ w1, (wr.alloc (.cells (ic zeroI) 59)).setRow wr.heap.size (ic x) = w1 := ⟨_, rfl⟩
      have HP := Lib.hid (show IAt w1 wr.heap.size x from by rw [← hw1]; exact HA.out.put x)
      have HK1 := Lib.hid (show Keep wr w1 from by rw [← hw1]; exact ((Keep.refl wr).alloc (.cells (ic zeroI) 59)).setRow wr.heap.size (ic x) (Nat.le_refl _))
      have HKW := Lib.hid (hk.trans HK1.out)
      have HMp := Lib.hid (hk3.keep HK1.out)
      rw [hw1] at hst
      have hkc := HP.out.kind
      have hto := HP.out.to HN2.out
      have hlk := lookS HMp.out x.route.ok
      have HX := Lib.hid hw1
      have hne : wr.heap.size ≠ w1.heap.size := by have := block_lt HP.out; omega
      have hbw : w.heap.size ≠ wr.heap.size := by have := block_lt hk3.block; omega
      have hlt1 : wr.heap.size ≤ w1.heap.size := by have := block_lt HP.out; omega
      clear hcl hx hk hk2 hk3 HA hw1
      cases hf : findS W x.route.to with
      | none =>
        rw [hf] at hlk
        simp only [Option.getD_none, Option.isSome_none] at hlk
        have HS := Lib.hid (SAt.new w1 zeroY)
        have hst2 := HS.out.store zeroY
        obtain ⟨w2, hw2⟩ : ∃ w2, (w1.alloc (.cells (sc zeroY) 102)).setRow w1.heap.size (sc zeroY) = w2 := ⟨_, rfl⟩
        have HS2 := Lib.hid (show SAt w2 w1.heap.size zeroY from by rw [← hw2]; exact HS.out.put zeroY)
        have HK2 := Lib.hid (show Keep w1 w2 from by rw [← hw2]; exact ((Keep.refl w1).alloc (.cells (sc zeroY) 102)).setRow w1.heap.size (sc zeroY) (Nat.le_refl _))
        rw [hw2] at hst2
        have hfr := HS2.out.free 0
        have hcw := HS2.out.was
        have HX2 := Lib.hid hw2
        obtain ⟨B, hB⟩ : ∃ B, B = (x.kind != 1) := ⟨_, rfl⟩
        have hkb : (x.kind != 1) = B := hB.symm
        have HS3 := Lib.hid (HS2.out.setWas B)
        have HK3 := Lib.hid (show Keep w1 (w2.setCell ⟨w1.heap.size, 0, none⟩ (.bool B)) from HK2.out.setCell _ _ _ (Nat.le_refl _))
        have hld := (HP.out.keep HK3.out).whole HN.out
        have hst3 := HS3.out.storeLast x
        have HS4 := Lib.hid (HS3.out.put ⟨B, x⟩)
        have HK4 := Lib.hid (HK3.out.setRow w1.heap.size (sc ⟨B, x⟩) (Nat.le_refl _))
        have hto4 := (HP.out.keep HK4.out).to HN2.out
        have hld4 := HS4.out.whole HN3.out
        obtain ⟨w6, es', hup, hM6, ho6⟩ := updS (HMp.out.keep HK4.out) ⟨B, x⟩
        have hup' : (Instr.mapUpdate 97 (.map (some w.heap.size)) (.agg (pc x.route.to)) (.agg (sc ⟨B, x⟩))).run Tryz.prog ((w2.setCell ⟨w1.heap.size, 0, none⟩ (.bool B)).setRow w1.heap.size (sc ⟨B, x⟩)) = .ok () w6 := hup
        have HM6 := Lib.hid hM6
        have HK6 := Lib.hid (Only.made (HKW.out.trans HK4.out) ho6 (Nat.le_refl _))
        have HR6 := Lib.hid (show R = storS (setS W ⟨B, x⟩) (l.drop (k + 1)) from by
          rw [HRE.out]
          unfold stepS
          rw [hf]
          simp only
          congr 3
          rw [hB, Bool.eq_iff_iff]
          simp)
        clear hup hM6 ho6 HS HS2 HS3 HS4 HK2 HK3 HK4 HMp HKW HK1 HRE hf hB hw2
        have hsx := HX.out
        have hsx2 := HX2.out
        clear HX HX2
        have hIs := hrn x
        have hSs := hsn ⟨B, x⟩
        have hSz := hsn zeroY
        generalize (sc ⟨B, x⟩) = S at *
        generalize ic x = I at *
        generalize pc x.route.to = T at *
        generalize x.kind = kd at *
        go_wp2
        go_roundw
        case rel => exact ⟨k + 1, _, es', by go_num, by rw [HLN.out]; omega, HR6.out, HM6.out, HK6.out⟩
        case measure => simp [intOf]; omega
      | some s =>
        rw [hf] at hlk
        simp only [Option.getD_some, Option.isSome_some] at hlk
        have HS := Lib.hid (SAt.new w1 zeroY)
        have hst2 := HS.out.store s
        obtain ⟨w2, hw2⟩ : ∃ w2, (w1.alloc (.cells (sc zeroY) 102)).setRow w1.heap.size (sc s) = w2 := ⟨_, rfl⟩
        have HS2 := Lib.hid (show SAt w2 w1.heap.size s from by rw [← hw2]; exact HS.out.put s)
        have HK2 := Lib.hid (show Keep w1 w2 from by rw [← hw2]; exact ((Keep.refl w1).alloc (.cells (sc zeroY) 102)).setRow w1.heap.size (sc s) (Nat.le_refl _))
        rw [hw2] at hst2
        have hsx := HX.out
        have hsx2 := hw2
        have hl2 := HS2.out.whole HN3.out
        obtain ⟨B, hB⟩ : ∃ B, B = (x.kind != 1) := ⟨_, rfl⟩
        have hkb : (x.kind != 1) = B := hB.symm
        have HBD := Lib.hid (show decide (x.kind ≠ 1) = B from by rw [hB, Bool.eq_iff_iff]; simp)
        have HIs := Lib.hid (iis s)
        have HF := Lib.hid hf
        have hIs := hrn x
        have hSs := hsn s
        have hSz := hsn zeroY
        clear hf hw2 hB HS
        by_cases hsb : s.is = B
        · have hnb : (!(s.is == B)) = false := by simp [hsb]
          have HR6 := Lib.hid (show R = storS (setS W ⟨s.was, x⟩) (l.drop (k + 1)) from by
            rw [HRE.out]
            unfold stepS
            rw [HF.out]
            simp only
            rw [HBD.out, if_pos hsb])
          obtain ⟨D, hD⟩ : ∃ D, s.is = D := ⟨_, rfl⟩
          rw [hD] at hnb HIs
          clear hsb hD HRE
          have hSI := HX.out
          have HKind := Lib.hid hkc
          generalize hgk : x.kind = kd at *
          go_wp2_with fail
          refine (HIs.out _).mono ?_
          rintro e w3 ⟨rfl, b3⟩
          have HK3 := Lib.hid (HK2.out.trans b3)
          have HS3 := Lib.hid (HS2.out.keep b3)
          have hld := (HP.out.keep HK3.out).whole HN.out
          have hst3 := HS3.out.storeLast x
          have HS4 := Lib.hid (HS3.out.put ⟨s.was, x⟩)
          have HK4 := Lib.hid (HK3.out.setRow w1.heap.size (sc ⟨s.was, x⟩) (Nat.le_refl _))
          have hto4 := (HP.out.keep HK4.out).to HN2.out
          have hld4 := HS4.out.whole HN3.out
          obtain ⟨w6, es', hup, hM6, ho6⟩ := updS (HMp.out.keep HK4.out) ⟨s.was, x⟩
          have hup' : (Instr.mapUpdate 97 (.map (some w.heap.size)) (.agg (pc x.route.to)) (.agg (sc ⟨s.was, x⟩))).run Tryz.prog (w3.setRow w1.heap.size (sc ⟨s.was, x⟩)) = .ok () w6 := hup
          have HM6 := Lib.hid hM6
          have HK6 := Lib.hid (Only.made (HKW.out.trans HK4.out) ho6 (Nat.le_refl _))
          have hSs2 := hsn ⟨s.was, x⟩
          clear hup hM6 ho6 HS2 HS3 HS4 HK2 HK3 HK4 HMp HKW HK1 b3 hst2 hl2 hlk hst dx hsx hsx2 hto hkc hSI
          generalize (sc ⟨s.was, x⟩) = S at *
          generalize ic x = I at *
          generalize pc x.route.to = T at *
          go_wp2
          go_roundw
          case rel => exact ⟨k + 1, _, es', by go_num, by rw [HLN.out]; omega, HR6.out, HM6.out, HK6.out⟩
          case measure => simp [intOf]; omega
        · have hnb : (!(s.is == B)) = true := by simpa using hsb
          have HR6 := Lib.hid (show R = none from by
            rw [HRE.out]
            unfold stepS
            rw [HF.out]
            simp only
            rw [HBD.out, if_neg hsb])
          obtain ⟨D, hD⟩ : ∃ D, s.is = D := ⟨_, rfl⟩
          rw [hD] at hnb HIs
          clear hsb hD HRE
          generalize hgk : x.kind = kd at *
          go_wp2_with fail
          refine (HIs.out _).mono ?_
          rintro e w3 ⟨rfl, b3⟩
          have HK3 := Lib.hid (HKW.out.trans (HK2.out.trans b3))
          clear b3 hst2 hl2 hlk hst dx hsx hsx2 hto hkc HK2 HKW
          go_wp2
          go_ret2
          rw [HR6.out]
          exact ⟨HK3.out, rfl⟩
    · have HR2 := Lib.hid (show R = some W from by rw [hk2, List.drop_of_length_le (by rw [HLN.out]; omega)]; rfl)
      have HT := Lib.hid hk3
      have HK := Lib.hid hk
      clear hk hk2 hk3
      go_wp2
      go_ret2
      rw [HR2.out]
      exact ⟨HK.out, _, es, rfl, Nat.le_refl _, HT.out⟩
end Go.Proofs.YtgkgpdlakamgiaaGreat
