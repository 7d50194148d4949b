/- Proved: what the document's Put answers. Condition: the list is in order and no longer than a table. -/
import Derived.Test.YtfikdeobejhblaaRf
namespace Go.Proofs.Ytfikdeobejhblaa
open Go.RowKit

theorem own_set {B : Nat} {w : World} {a : Option Addr} {cap : Nat} {l : List Rt} (h : Own 37 20 rl B w (.slice a l.length cap) l) (k : Nat) (hk : k < l.length) (r : Rt) :
    ∃ g w', a = some ⟨g, 0, none⟩ ∧ B ≤ g ∧ (storeCells ⟨g, k * 20, none⟩ (rc r).toList).run Try.prog w = .ok () w' ∧ Own 37 20 rl B w' (.slice a l.length cap) (l.set k r) ∧ Only g w w' := by
  rcases h.2 with ⟨h1, h2⟩ | ⟨g, cap', cur, h1, h2, h3, h4, h5, h6, h7⟩
  · omega
  · simp at h1
    obtain ⟨rfl, rfl⟩ := h1
    have hfit : k * 20 + 0 + (rc r).toList.length ≤ cur.size := by
      rw [Array.length_toList, rc_size, h6]
      have := Nat.mul_le_mul_right 20 (show k + 1 ≤ cap by omega)
      omega
    have hst := run_storeCells_at Try.prog g (k * 20) 37 (rc r).toList 0 cur w h3 hfit (rc_one r)
    rw [Nat.add_zero, Array.length_toList, rc_size] at hst
    refine ⟨g, _, rfl, h2, hst, ⟨?_, .inr ⟨g, cap, _, by simp, h2, block_row h3 _, by simpa using h4, h5, ?_, ?_⟩⟩, ?_⟩
    · rw [flat_len rl rl_len]
    · rw [Array.length_toList, rc_size] at hfit
      simp only [List.size_toArray, List.length_append, List.length_take, List.length_drop, Array.length_toList, rc_size]
      omega
    · rw [List.length_set, flat_set l k hk r, ← h7]
      have hk2 : k * 20 + 20 ≤ l.length * 20 := by
        have := Nat.mul_le_mul_right 20 (show k + 1 ≤ l.length by omega)
        omega
      have hcz : cur.toList.length = cap * 20 := by rw [Array.length_toList, h6]
      have hcs : l.length * 20 ≤ cur.toList.length := by
        rw [hcz]
        exact Nat.mul_le_mul_right 20 h4
      have hr : (rc r).toList = rl r := by simp [rc]
      rw [hr]
      simp only [List.take_take]
      rw [Nat.min_eq_left (by omega)]
      have e1 : (cur.toList.take (k * 20) ++ rl r).length = k * 20 + 20 := by rw [List.length_append, List.length_take, rl_len]; omega
      rw [List.take_append, e1, List.take_of_length_le (by omega), List.drop_take]
    · refine ⟨rfl, rfl, rfl, by simp [World.setRow], fun j _ hj => ?_⟩
      simp only [World.setRow, Array.getElem?_modify]
      rw [if_neg (Ne.symm hj)]

/-- What has come together behind i of them. -/
def insU (l : List Rt) (r : Rt) (q i : Nat) : List Rt := if i ≤ q then l.take i else l.take q ++ r :: (l.drop q).take (i - q)
theorem insU_next {l : List Rt} {r : Rt} {q i : Nat} {x : Rt} (hx : l[i]? = some x) : insU l r q (i + 1) = (if i = q then l.take i ++ [r] else insU l r q i) ++ [x] := by
  have hi := (List.getElem?_eq_some_iff.1 hx).1
  unfold insU
  by_cases h1 : i + 1 ≤ q
  · rw [if_pos h1, if_neg (by omega), if_pos (by omega), List.take_add_one, hx]
    rfl
  · rw [if_neg h1]
    by_cases h2 : i = q
    · subst h2
      rw [if_pos rfl, show i + 1 - i = 1 by omega, drop_cons' hx]
      simp
    · rw [if_neg h2, if_neg (by omega), show i + 1 - q = (i - q) + 1 by omega, List.take_add_one, List.getElem?_drop, show q + (i - q) = i by omega, hx]
      simp
theorem set_put {l : List Rt} (hs : Sorted l) (r : Rt) (hh : hasP l r.to = true) : l.set (rank l r.to) r = putL l r := by
  have hlt := has_lt hs r.ok hh
  unfold putL
  rw [hh, if_pos rfl, List.set_eq_take_append_cons_drop, if_pos hlt]
theorem Own.len {α : Type} {t k : Nat} {enc : α → List Value} {B : Nat} {w : World} {a : Option Addr} {n cap : Nat} {l m : List α} (_h : Own t k enc B w (.slice a n cap) l) (hl : n = m.length) (he : l.length = m.length) : n = l.length := by rw [hl, he]
def PutPost (w : World) (x : List Rt × Int) (e : Ending) (w' : World) : Prop := ∃ v', e = .returned (.tuple #[v', .int .i64 x.2]) ∧ Row rl 37 w' v' x.1 ∧ Keep w w'
def PtRel (W : World) (l : List Rt) (r : Rt) (q : Nat) (s d i : Value) (wr : World) : Prop := ∃ k : Nat, i = .int .i64 k ∧ k ≤ l.length ∧ d = .bool (decide (q < k)) ∧ Own 37 20 rl W.heap.size wr s (insU l r q k) ∧ Keep W wr

set_option maxRecDepth 100000 in
set_option maxHeartbeats 2000000 in
theorem qput (v : Value) (l : List Rt) (r : Rt) (w : World) (h : Row rl 37 w v l) (hs : Sorted l) (hl : l.length ≤ 300) : Calls Try.prog 80 #[v, .agg (rc r)] w (PutPost w (putS l r)) := by
  have hA := RAt.new w r
  have hS : Keep w (w.alloc (.cells (rc r) 37)) := (Keep.refl w).alloc _
  obtain ⟨n, hn⟩ : ∃ n, n = 20 := ⟨20, rfl⟩
  have hsz : ∀ w, (Go.sizeOf 37).run Try.prog w = .ok n w := fun w => by rw [hn]; exact Try.sizeOf37 w
  have hn0 : ¬ n = 0 := by omega
  obtain ⟨n2, hn2⟩ : ∃ n, n = 18 := ⟨18, rfl⟩
  have hsz2 : ∀ w, (Go.sizeOf 34).run Try.prog w = .ok n2 w := fun w => by rw [hn2]; exact Try.sizeOf34 w
  have hn20 : ¬ n2 = 0 := by omega
  have HR := Lib.hid (qrightT r).keep
  have h1 := hA.whole hn
  have HA := Lib.hid hA
  have HS := Lib.hid hS
  have HV := Lib.hid (h.keep hS)
  have HN := Lib.hid hn
  have HN2 := Lib.hid hn2
  obtain ⟨a, cap, e, hc1, hc2⟩ := h.cells.form
  subst e
  clear hA hS hn hn2 h
  obtain ⟨R, hR⟩ : ∃ R, rc r = R := ⟨_, rfl⟩
  have HRC := Lib.hid hR
  rw [hR] at h1 HR HS HA HV ⊢
  clear hR
  obtain ⟨L, hL⟩ : ∃ n, l.length = n := ⟨_, rfl⟩
  have HL := Lib.hid hL
  rw [hL] at HV hl hc1 ⊢
  clear hL
  unfold putS
  by_cases hr : rightR r
  · rw [if_pos hr]
    rw [decide_eq_true hr] at HR
    clear hr
    have HS' := Lib.hid hs
    have HSR := Lib.hid (putL_sorted hs r)
    have HNO := Lib.hid (fun hh => behind_no hs r.ok hh)
    have HTK := Lib.hid (take_rank hs r.ok)
    have hrk0 := rank_le l r.to
    rw [HL.out] at hrk0
    rw [HL.out]
    obtain ⟨X, hX⟩ : ∃ X, (if hasP l r.to = true then (putL l r, (0 : Int)) else if 300 ≤ L then (l, 7) else (putL l r, 0)) = X := ⟨_, rfl⟩
    rw [hX]
    have HX := Lib.hid hX
    clear hX hs
    have HSL := Lib.hid (slice_one r)
    have HROW := Lib.hid (fun w => Row.one w r)
    simp only [HRC.out] at HSL HROW
    go_enter Try.func80, Try.ntmps80
    go_wp2_with fail
    refine (HR.out _).mono ?_
    rintro e w1 ⟨rfl, b1⟩
    have h2 := (HA.out.keep b1).to HN2.out
    have HV1 := Lib.hid (HV.out.keep b1)
    have HA1 := Lib.hid (HA.out.keep b1)
    have HK1 := Lib.hid (HS.out.trans b1)
    clear h1 b1
    go_wp2_with fail
    refine (find _ l r.to r.ok w1 HV1.out.cells (by rw [HL.out]; omega)).mono ?_
    rintro e w2 ⟨z, rfl, hf, b2⟩
    have HV2 := Lib.hid (HV1.out.keep b2)
    have HA2 := Lib.hid (HA1.out.keep b2)
    have HK2 := Lib.hid (HK1.out.trans b2)
    clear h2 b2 HV1 HA1 HK1 HV HA HS
    rcases hf with ⟨rfl, hh⟩ | ⟨k, x, rfl, hx, he⟩
    · by_cases hb : 300 ≤ L
      · have HXE := Lib.hid (show X = (l, 7) from by rw [← HX.out, hh, if_neg (by simp), if_pos hb])
        have hbI : (L : Int) ≥ 300 := by omega
        clear hh
        go_wp2
        go_ret2
        exact ⟨.slice a L cap, by rw [HXE.out]; rfl, by rw [HXE.out]; exact HV2.out, HK2.out⟩
      · have HXE := Lib.hid (show X = (putL l r, 0) from by rw [← HX.out, hh, if_neg (by simp), if_neg hb])
        have hbI : ¬ ((L : Int) ≥ 300) := by omega
        have HHH := Lib.hid hh
        have HBH := Lib.hid (HNO.out hh)
        have HPL := Lib.hid (show putL l r = l.take (rank l r.to) ++ r :: l.drop (rank l r.to) from by unfold putL; rw [hh, if_neg (by simp)])
        clear hh HNO
        generalize rank l r.to = K at *
        go_wp2
        go_loopw [8, 9, 10] (fun s d i wr => PtRel w2 l r K s d i wr) (fun _ _ i _ => L - (intOf i).toNat)
        case atStart => exact ⟨0, rfl, Nat.zero_le _, by simp, by unfold insU; rw [if_pos (Nat.zero_le _), List.take_zero]; exact Own.nil _ _, Keep.refl _⟩
        case round =>
          obtain ⟨k, rfl, hk, rfl, ho, hkp⟩ := hrel
          rw [HL.out] at hk
          have HO := Lib.hid ho
          have HKP := Lib.hid hkp
          clear ho hkp
          by_cases hlt : k < L
          · have hcl : Cells rl w2 (.slice a l.length cap) l := by rw [HL.out]; exact HV2.out.cells
            obtain ⟨g, o, cap', e, _, _, _⟩ := hcl.ptr k (by rw [HL.out]; exact hlt)
            rw [HL.out] at e
            simp at e
            obtain ⟨rfl, rfl⟩ := e
            obtain ⟨x, hx⟩ : ∃ x, l[k]? = some x := ⟨_, List.getElem?_eq_getElem (by rw [HL.out]; exact hlt)⟩
            have d2 : ∀ u : KW wr, (loadCellsFrom ⟨g, o + k * n, none⟩ 0 n2 #[]).run Try.prog u.1 = .ok (pc x.to) u.1 := fun u => (hcl.keep (HKP.out.trans u.2)).to HN2.out HN.out k x hx
            have d3 : ∀ u : KW wr, (loadCellsFrom ⟨w.heap.size, 0, none⟩ 0 n2 #[]).run Try.prog u.1 = .ok (pc r.to) u.1 := fun u => (show RAt u.1 w.heap.size r from HA2.out.keep (HKP.out.trans u.2)).to HN2.out
            have HCM := Lib.hid (qcompare r.to x.to r.ok x.ok).keep
            have HX1 := Lib.hid hx
            have HNX := Lib.hid (insU_next (r := r) (q := K) hx)
            have HSX := Lib.hid (slice_one x)
            have HRX := Lib.hid (fun w => Row.one w x)
            have hil : (insU l r K k).length ≤ 301 := by
              have := HL.out
              unfold insU
              split <;> simp <;> omega
            obtain ⟨XX, hXX⟩ : ∃ X, rc x = X := ⟨_, rfl⟩
            have HXX := Lib.hid hXX
            simp only [hXX] at HSX HRX
            clear hcl hXX
            by_cases hKk : K < k
            · rw [decide_eq_true hKk]
              clear hx
              go_wp2_with fail
              refine wp_region_keep (Keep.refl _) (by kernel_rfl) (by kernel_rfl) ?_
              repeat (first | go_big_quiet_step (fail) | quiet_step (fail))
              refine wpQuiet_nil ?_
              rintro w6 ⟨⟨w7, b7⟩, hw6⟩
              obtain rfl : w7 = w6 := hw6.symm
              clear hw6
              have HB7 := Lib.hid b7
              clear b7 d2 d3
              have HO7 := Lib.hid (HO.out.keep HB7.out)
              have dx := (show Cells rl w7 (.slice (some ⟨g, o, none⟩) l.length cap) l from by rw [HL.out]; exact HV2.out.cells.keep (HKP.out.trans HB7.out)).rt HN.out k x HX1.out
              rw [HXX.out] at dx
              have HKX := Lib.hid (show Keep w7 (w7.alloc (.cells XX 37)) from (Keep.refl _).alloc _)
              have HOX := Lib.hid (HO7.out.keep HKX.out)
              have HKXW := Lib.hid (Keep.trans (HKP.out.trans HB7.out) HKX.out)
              have hbx : w2.heap.size ≤ (w7.alloc (.cells XX 37)).heap.size := HKXW.out.size
              go_wp2_with (first | (refine at_slice [(0, .agg XX)] rfl _ (HSX.out _) ?_) | (at_builtin; refine wp_app elR rfl _ _ rfl w2.heap.size _ _ _ [x] rfl rfl HOX.out (HRX.out w7).cells ?q1 ?q2 ?q3 ?_))
              case q1 => simp; omega
              case q2 => simp; omega
              case q3 => exact hbx
              intro v9 w9 k1 k2
              have HK9 := Lib.hid (HOX.out.grown HKXW.out (Nat.le_refl _) k2)
              have HO9 := Lib.hid k1
              clear k1 k2 dx hbx
              go_wp2
              go_roundw
              case rel => exact ⟨k + 1, by go_num, by rw [HL.out]; omega, by rw [decide_eq_true (show K < k + 1 by omega)], by rw [HNX.out, if_neg (by omega)]; exact HO9.out, HK9.out⟩
              case measure => simp [intOf]; omega
            · rw [decide_eq_false hKk]
              by_cases hKe : k = K
              · have hpos := HBH.out x (by rw [← hKe, drop_cons' hx]; simp)
                have hneg : cmpP r.to x.to < 0 := by rw [cmp_neg r.ok x.ok]; omega
                have HKE := Lib.hid hKe
                clear hx hpos hKe hKk
                generalize cmpP r.to x.to = z at *
                go_wp2_with fail
                refine wp_region_keep (Keep.refl _) (by kernel_rfl) (by kernel_rfl) ?_
                repeat (first | go_big_quiet_step (exact HCM.out.at _) | quiet_step (exact HCM.out.at _))
                refine wpQuiet_nil ?_
                rintro w6 ⟨⟨w7, b7⟩, hw6⟩
                obtain rfl : w7 = w6 := hw6.symm
                clear hw6
                have HB7 := Lib.hid b7
                clear b7 d2 d3
                have dr := (show RAt w7 w.heap.size r from HA2.out.keep (HKP.out.trans HB7.out)).whole HN.out
                rw [HRC.out] at dr
                have HKR := Lib.hid (show Keep w7 (w7.alloc (.cells R 37)) from (Keep.refl _).alloc _)
                have HOR := Lib.hid ((HO.out.keep HB7.out).keep HKR.out)
                have HKRW := Lib.hid ((HKP.out.trans HB7.out).trans HKR.out)
                have hbr : w2.heap.size ≤ (w7.alloc (.cells R 37)).heap.size := HKRW.out.size
                go_wp2_with (first | (refine at_slice [(0, .agg R)] rfl _ (HSL.out _) ?_) | (at_builtin; refine wp_app elR rfl _ _ rfl w2.heap.size _ _ _ [r] rfl rfl HOR.out (HROW.out w7).cells ?r1 ?r2 ?r3 ?_))
                case r1 => simp; omega
                case r2 => simp; omega
                case r3 => exact hbr
                intro v8 w8 k1 k2
                have HK8 := Lib.hid (HOR.out.grown HKRW.out (Nat.le_refl _) k2)
                have HO8 := Lib.hid k1
                clear k1 k2 dr hbr
                have HO8' := Lib.hid (show Own 37 20 rl w2.heap.size w8 v8 (insU l r K k ++ [r]) from HO8.out)
                have dx := (show Cells rl w8 (.slice (some ⟨g, o, none⟩) l.length cap) l from by rw [HL.out]; exact HV2.out.cells.keep HK8.out).rt HN.out k x HX1.out
                rw [HXX.out] at dx
                have HKX := Lib.hid (show Keep w8 (w8.alloc (.cells XX 37)) from (Keep.refl _).alloc _)
                have HOX := Lib.hid (HO8'.out.keep HKX.out)
                have HKXW := Lib.hid (Keep.trans HK8.out HKX.out)
                have hbx : w2.heap.size ≤ (w8.alloc (.cells XX 37)).heap.size := HKXW.out.size
                go_wp2_with (first | (refine at_slice [(0, .agg XX)] rfl _ (HSX.out _) ?_) | (at_builtin; refine wp_app elR rfl _ _ rfl w2.heap.size _ _ _ [x] rfl rfl HOX.out (HRX.out w8).cells ?s1 ?s2 ?s3 ?_))
                case s1 => simp; omega
                case s2 => simp; omega
                case s3 => exact hbx
                intro v9 w9 k1 k2
                have HK9 := Lib.hid (HOX.out.grown HKXW.out (Nat.le_refl _) k2)
                have HO9 := Lib.hid k1
                clear k1 k2 dx hbx
                go_wp2
                go_roundw
                case rel => exact ⟨k + 1, by go_num, by rw [HL.out]; omega, by rw [decide_eq_true (show K < k + 1 by rw [HKE.out]; omega)], by
                  rw [HNX.out, if_pos HKE.out]
                  have := HO9.out
                  rw [show insU l r K k = l.take k from by unfold insU; rw [if_pos (by rw [HKE.out]; exact Nat.le_refl _)]] at this
                  simpa using this, HK9.out⟩
                case measure => simp [intOf]; omega
              · have hneg : ¬ cmpP r.to x.to < 0 := by
                  have := HTK.out x (by rw [List.mem_take_iff_getElem]; exact ⟨k, by rw [HL.out]; omega, (List.getElem?_eq_some_iff.1 hx).2⟩)
                  rw [cmp_neg r.ok x.ok]
                  omega
                clear hx
                generalize cmpP r.to x.to = z at *
                go_wp2_with fail
                refine wp_region_keep (Keep.refl _) (by kernel_rfl) (by kernel_rfl) ?_
                repeat (first | go_big_quiet_step (exact HCM.out.at _) | quiet_step (exact HCM.out.at _))
                refine wpQuiet_nil ?_
                rintro w6 ⟨⟨w7, b7⟩, hw6⟩
                obtain rfl : w7 = w6 := hw6.symm
                clear hw6
                have HB7 := Lib.hid b7
                clear b7 d2 d3
                have HO7 := Lib.hid (HO.out.keep HB7.out)
                have dx := (show Cells rl w7 (.slice (some ⟨g, o, none⟩) l.length cap) l from by rw [HL.out]; exact HV2.out.cells.keep (HKP.out.trans HB7.out)).rt HN.out k x HX1.out
                rw [HXX.out] at dx
                have HKX := Lib.hid (show Keep w7 (w7.alloc (.cells XX 37)) from (Keep.refl _).alloc _)
                have HOX := Lib.hid (HO7.out.keep HKX.out)
                have HKXW := Lib.hid (Keep.trans (HKP.out.trans HB7.out) HKX.out)
                have hbx : w2.heap.size ≤ (w7.alloc (.cells XX 37)).heap.size := HKXW.out.size
                go_wp2_with (first | (refine at_slice [(0, .agg XX)] rfl _ (HSX.out _) ?_) | (at_builtin; refine wp_app elR rfl _ _ rfl w2.heap.size _ _ _ [x] rfl rfl HOX.out (HRX.out w7).cells ?t1 ?t2 ?t3 ?_))
                case t1 => simp; omega
                case t2 => simp; omega
                case t3 => exact hbx
                intro v9 w9 k1 k2
                have HK9 := Lib.hid (HOX.out.grown HKXW.out (Nat.le_refl _) k2)
                have HO9 := Lib.hid k1
                clear k1 k2 dx hbx
                go_wp2
                go_roundw
                case rel => exact ⟨k + 1, by go_num, by rw [HL.out]; omega, by rw [decide_eq_false (show ¬ K < k + 1 by omega)], by rw [HNX.out, if_neg hKe]; exact HO9.out, HK9.out⟩
                case measure => simp [intOf]; omega
          · obtain rfl : k = L := by omega
            by_cases hKL : K < k
            · rw [decide_eq_true hKL]
              have HRW := Lib.hid (show Row rl 37 wr u8 (putL l r) from by
                have := HO.out.row elR
                rw [show insU l r K k = putL l r from by unfold insU; rw [if_neg (by omega), HPL.out, List.take_of_length_le (l := l.drop K) (by rw [List.length_drop, HL.out]; omega)]] at this
                exact this)
              go_wp2
              go_ret2
              exact ⟨_, by rw [HXE.out]; rfl, by rw [HXE.out]; exact HRW.out, HK2.out.trans HKP.out⟩
            · rw [decide_eq_false hKL]
              have dr := (show RAt wr w.heap.size r from HA2.out.keep HKP.out).whole HN.out
              rw [HRC.out] at dr
              have HKR := Lib.hid (show Keep wr (wr.alloc (.cells R 37)) from (Keep.refl _).alloc _)
              have HOR := Lib.hid (HO.out.keep HKR.out)
              have HKRW := Lib.hid (HKP.out.trans HKR.out)
              have hbr : w2.heap.size ≤ (wr.alloc (.cells R 37)).heap.size := HKRW.out.size
              have hil : (insU l r K k).length ≤ 301 := by
                have := HL.out
                unfold insU
                split <;> simp <;> omega
              go_wp2_with (first | (refine at_slice [(0, .agg R)] rfl _ (HSL.out _) ?_) | (at_builtin; refine wp_app elR rfl _ _ rfl w2.heap.size _ _ _ [r] rfl rfl HOR.out (HROW.out wr).cells ?x1 ?x2 ?x3 ?_))
              case x1 => simp; omega
              case x2 => simp; omega
              case x3 => exact hbr
              intro v8 w8 k1 k2
              have HK8 := Lib.hid (HOR.out.grown HKRW.out (Nat.le_refl _) k2)
              have HRW := Lib.hid (show Row rl 37 w8 v8 (putL l r) from by
                have := k1.row elR
                rw [show insU l r K k ++ [r] = putL l r from by
                  unfold insU
                  rw [if_pos (by omega), HPL.out, show K = k by omega, List.drop_of_length_le (by rw [HL.out]; exact Nat.le_refl _)]] at this
                exact this)
              clear k1 k2 dr hbr
              go_wp2
              go_ret2
              exact ⟨_, by rw [HXE.out]; rfl, by rw [HXE.out]; exact HRW.out, HK2.out.trans HK8.out⟩
    · obtain ⟨hh, hrk⟩ := find_rank HS'.out r.ok hx he
      have HXE := Lib.hid (show X = (putL l r, 0) from by rw [← HX.out, if_pos hh])
      have HSP := Lib.hid (set_put HS'.out r hh)
      rw [hrk] at HSP
      have hkL : k < L := by rw [← HL.out]; exact (List.getElem?_eq_some_iff.1 hx).1
      have h3 := (HA2.out).whole HN.out
      rw [HRC.out] at h3
      have HK3 := Lib.hid (show Keep w2 (w2.alloc (.cells #[] 37)) from (Keep.refl w2).alloc _)
      have HO := Lib.hid (Own.made (t := 37) (k := 20) (enc := rl) w2.heap.size w2 (Nat.le_refl _))
      have hsz3 : w2.heap.size ≤ (w2.alloc (.cells #[] 37)).heap.size := HK3.out.size
      have HC3 := Lib.hid (HV2.out.keep HK3.out)
      have HA3 := Lib.hid (HA2.out.keep HK3.out)
      clear hh hrk hx he h3
      go_wp2_with (at_builtin; refine wp_app elR rfl _ _ rfl w2.heap.size _ _ [] l rfl rfl HO.out HC3.out.cells ?q1 ?q2 ?q3 ?_)
      case q1 => simp [HL.out]; omega
      case q2 => simp [HL.out]; omega
      case q3 => exact hsz3
      intro v4 w4 k1 k2
      have HK4 := Lib.hid (HO.out.grown HK3.out (Nat.le_refl _) k2)
      have hA4 : RAt w4 w.heap.size r := HA2.out.keep HK4.out
      have h4 := hA4.whole HN.out
      rw [HRC.out] at h4
      obtain ⟨a4, c4, e4, _, _⟩ := (k1.row elR).cells.form
      subst e4
      obtain ⟨g, w5, rfl, hg, hst, ho5, on5⟩ := own_set k1 k (by rw [HL.out]; exact hkL) r
      rw [HRC.out] at hst
      rw [HL.out] at ho5 ⊢
      have hst2 : (storeCells ⟨g, k * n, none⟩ R.toList).run Try.prog w4 = .ok () w5 := by rw [HN.out]; exact hst
      have hRz : R.size = n := by rw [← HRC.out, HN.out]; exact rc_size _
      have HO5 := Lib.hid ho5
      have HK5 := Lib.hid (HK2.out.trans (on5.made HK4.out hg))
      clear k1 k2 hA4 hst ho5 on5
      go_wp2
      go_ret2
      refine ⟨_, by rw [HXE.out]; rfl, ?_, HK5.out⟩
      rw [HXE.out]
      have := HO5.out
      rw [HSP.out] at this
      exact (show Own 37 20 rl w2.heap.size w5 _ (putL l r) from by
        unfold Own at this ⊢
        exact this).row elR
  · rw [if_neg hr]
    rw [decide_eq_false hr] at HR
    clear hr
    go_enter Try.func80, Try.ntmps80
    go_wp2_with fail
    refine (HR.out _).mono ?_
    rintro e w1 ⟨rfl, b1⟩
    go_wp2
    go_ret2
    exact ⟨_, rfl, HV.out.keep b1, HS.out.trans b1⟩
end Go.Proofs.Ytfikdeobejhblaa
