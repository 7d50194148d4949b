/- Proved: what the document's Between answers. Condition: the list is no longer than a table. -/
import Derived.Test.YtgocmolebanflaaZ
namespace Go.Proofs.Ytgocmolebanflaa
open Go.RowKit

def inQ (p q : Px) (r : Rt) : Bool := decide (0 ≤ cmpP r.to p) && decide (cmpP r.to q < 0)
theorem take_inQ {m : List Rt} {f : Rt → Bool} {k : Nat} {x : Rt} (hx : m[k]? = some x) : (m.take (k + 1)).filter f = (m.take k).filter f ++ (if f x then [x] else []) := by
  rw [List.take_add_one, hx, List.filter_append]
  cases h : f x <;> simp [h]
def BtRel (W : World) (l : List Rt) (p q : Px) (s i : Value) (wr : World) : Prop := ∃ k : Nat, i = .int .i64 k ∧ k ≤ l.length ∧ Own 34 20 rl W.heap.size wr s ((l.take k).filter (inQ p q)) ∧ Keep W wr

set_option maxRecDepth 100000 in
set_option maxHeartbeats 2000000 in
theorem qbetween (v : Value) (l : List Rt) (p q : Px) (hp : L16 p) (hq : L16 q) (w : World) (h : Row rl 34 w v l) (hl : l.length ≤ 300) : Calls Try.prog 24 #[v, .agg (pc p), .agg (pc q)] w fun e w' => ∃ v', e = .returned v' ∧ Row rl 34 w' v' (l.filter (inQ p q)) ∧ Keep w w' := by
  obtain ⟨hP, hQ, hS⟩ := two_at w p q hp hq
  obtain ⟨n, hn⟩ : ∃ n, n = 20 := ⟨20, rfl⟩
  have hsz : ∀ w, (Go.sizeOf 34).run Try.prog w = .ok n w := fun w => by rw [hn]; exact Try.sizeOf34 w
  have hn0 : ¬ n = 0 := by omega
  obtain ⟨n2, hn2⟩ : ∃ n, n = 18 := ⟨18, rfl⟩
  have hsz2 : ∀ w, (Go.sizeOf 25).run Try.prog w = .ok n2 w := fun w => by rw [hn2]; exact Try.sizeOf25 w
  have hn20 : ¬ n2 = 0 := by omega
  have HS := Lib.hid hS.keep
  have HV := Lib.hid (h.keep hS.keep)
  have HN := Lib.hid hn
  have HN2 := Lib.hid hn2
  have HD2 := Lib.hid (fun (u : World) (k : Keep ((w.alloc (.cells (pc p) 25)).alloc (.cells (pc q) 25)) u) => (show At u w.heap.size p from ⟨k.obj hP.block, hp⟩).whole hn2)
  have HD3 := Lib.hid (fun (u : World) (k : Keep ((w.alloc (.cells (pc p) 25)).alloc (.cells (pc q) 25)) u) => (show At u (w.heap.size + 1) q from ⟨k.obj hQ.block, hq⟩).whole hn2)
  have HC1 := Lib.hid (fun x : Rt => (qcompare x.to p x.ok hp).keep)
  have HC2 := Lib.hid (fun x : Rt => (qcompare x.to q x.ok hq).keep)
  obtain ⟨a, cap, e, hc1, hc2⟩ := h.cells.form
  subst e
  clear hP hQ hS hn hn2 h
  generalize pc p = A at *
  generalize pc q = B at *
  obtain ⟨L, hL⟩ : ∃ n, l.length = n := ⟨_, rfl⟩
  have HL := Lib.hid hL
  rw [hL] at HV hl hc1 ⊢
  clear hL
  have HE0 := Lib.hid (show ((w.alloc (.cells A 25)).alloc (.cells B 25)).heap.size = w.heap.size + 1 + 1 from by simp)
  go_enter Try.func24, Try.ntmps24
  go_wp2
  go_loopw [7, 8] (fun s i wr => BtRel ((w.alloc (.cells A 25)).alloc (.cells B 25)) l p q s i wr) (fun _ i _ => L - (intOf i).toNat)
  case atStart => exact ⟨0, rfl, Nat.zero_le _, Own.nil _ _, Keep.refl _⟩
  case round =>
    obtain ⟨k, rfl, hk, ho, hkp⟩ := hrel
    rw [HL.out] at hk
    have HO := Lib.hid ho
    have HKP := Lib.hid hkp
    clear ho hkp
    by_cases hlt : k < L
    · have hcl : Cells rl ((w.alloc (.cells A 25)).alloc (.cells B 25)) (.slice a l.length cap) l := by rw [HL.out]; exact HV.out.cells
      obtain ⟨g, o, cap', e, _, _, _⟩ := hcl.ptr k (by rw [HL.out]; exact hlt)
      rw [HL.out] at e
      simp at e
      obtain ⟨rfl, rfl⟩ := e
      obtain ⟨x, hx⟩ : ∃ x, l[k]? = some x := ⟨_, List.getElem?_eq_getElem (by rw [HL.out]; exact hlt)⟩
      have d1 : ∀ u : KW wr, (loadCellsFrom ⟨g, o + k * n, none⟩ 0 n2 #[]).run Try.prog u.1 = .ok (pc x.to) u.1 := fun u => (hcl.keep (HKP.out.trans u.2)).to HN2.out HN.out k x hx
      have d2 : ∀ u : KW wr, (loadCellsFrom ⟨w.heap.size, 0, none⟩ 0 n2 #[]).run Try.prog u.1 = .ok A u.1 := fun u => HD2.out u.1 (HKP.out.trans u.2)
      have d3 : ∀ u : KW wr, (loadCellsFrom ⟨w.heap.size + 1, 0, none⟩ 0 n2 #[]).run Try.prog u.1 = .ok B u.1 := fun u => HD3.out u.1 (HKP.out.trans u.2)
      have HX1 := Lib.hid hx
      have HTI := Lib.hid (take_inQ (f := inQ p q) hx)
      have HIN : Hid (inQ p q x = (decide (0 ≤ cmpP x.to p) && decide (cmpP x.to q < 0))) := rfl
      have HG1 := Lib.hid (HC1.out x)
      have HG2 := Lib.hid (HC2.out x)
      obtain ⟨z1, hz1⟩ : ∃ z, cmpP x.to p = z := ⟨_, rfl⟩
      obtain ⟨z2, hz2⟩ : ∃ z, cmpP x.to q = z := ⟨_, rfl⟩
      rw [hz1] at HG1 HIN
      rw [hz2] at HG2 HIN
      clear hz1 hz2 hx hcl
      generalize pc x.to = X at *
      by_cases h1 : z1 ≥ 0
      · by_cases h2 : z2 < 0
        · have HIT := Lib.hid (show inQ p q x = true from by rw [HIN.out, decide_eq_true (show 0 ≤ z1 by omega), decide_eq_true h2]; rfl)
          have HSX := Lib.hid (slice_one x)
          have HRX := Lib.hid (fun w => Row.one w x)
          have hil : ((l.take k).filter (inQ p q)).length ≤ 300 := by
            have := List.length_filter_le (inQ p q) (l.take k)
            rw [List.length_take] at this
            omega
          obtain ⟨XX, hXX⟩ : ∃ X, rc x = X := ⟨_, rfl⟩
          have HXX := Lib.hid hXX
          simp only [hXX] at HSX HRX
          clear hXX
          go_wp2_with fail
          refine wp_region_keep (Keep.refl _) (by kernel_rfl) (by kernel_rfl) ?_
          repeat (first | go_big_quiet_step (fail) | quiet_step (fail))
          first | go_big_quiet_step (exact HG1.out.at _) | quiet_step (exact HG1.out.at _)
          repeat (first | go_big_quiet_step (fail) | quiet_step (fail))
          first | go_big_quiet_step (exact HG2.out.at _) | quiet_step (exact HG2.out.at _)
          repeat (first | go_big_quiet_step (fail) | quiet_step (fail))
          refine wpQuiet_nil ?_
          rintro w6 ⟨⟨w7, b7⟩, hw6⟩
          obtain rfl : w7 = w6 := hw6.symm
          clear hw6
          have HB7 := Lib.hid b7
          clear b7 d1 d2 d3
          have HO7 := Lib.hid (HO.out.keep HB7.out)
          have dx := (show Cells rl w7 (.slice (some ⟨g, o, none⟩) l.length cap) l from by rw [HL.out]; exact HV.out.cells.keep (HKP.out.trans HB7.out)).rt HN.out k x HX1.out
          rw [HXX.out] at dx
          have HKX := Lib.hid (show Keep w7 (w7.alloc (.cells XX 34)) from (Keep.refl _).alloc _)
          have HOX := Lib.hid (HO7.out.keep HKX.out)
          have HKXW := Lib.hid (Keep.trans (HKP.out.trans HB7.out) HKX.out)
          have hbx : ((w.alloc (.cells A 25)).alloc (.cells B 25)).heap.size ≤ (w7.alloc (.cells XX 34)).heap.size := HKXW.out.size
          go_wp2_with (first | (refine at_slice [(0, .agg XX)] rfl _ (HSX.out _) ?_) | (at_builtin; refine wp_app elR rfl _ _ rfl ((w.alloc (.cells A 25)).alloc (.cells B 25)).heap.size _ _ _ [x] rfl rfl HOX.out (HRX.out w7).cells ?q1 ?q2 ?q3 ?_))
          case q1 => simp only [List.length_cons, List.length_nil]; omega
          case q2 => simp only [List.length_cons, List.length_nil]; omega
          case q3 => exact hbx
          intro v9 w9 k1 k2
          have HK9 := Lib.hid (HOX.out.grown HKXW.out (Nat.le_refl _) k2)
          have HO9 := Lib.hid k1
          clear k1 k2 dx hbx
          go_wp2
          go_roundw
          case rel => exact ⟨k + 1, by go_num, by rw [HL.out]; omega, by rw [HTI.out, if_pos HIT.out, HE0.out]; exact HO9.out, HK9.out⟩
          case measure => simp [intOf]; omega
        · have HIT := Lib.hid (show inQ p q x = false from by rw [HIN.out, decide_eq_false h2]; simp)
          go_wp2_with fail
          refine wp_region_keep (Keep.refl _) (by kernel_rfl) (by kernel_rfl) ?_
          repeat (first | go_big_quiet_step (fail) | quiet_step (fail))
          first | go_big_quiet_step (exact HG1.out.at _) | quiet_step (exact HG1.out.at _)
          repeat (first | go_big_quiet_step (fail) | quiet_step (fail))
          first | go_big_quiet_step (exact HG2.out.at _) | quiet_step (exact HG2.out.at _)
          repeat (first | go_big_quiet_step (fail) | quiet_step (fail))
          refine wpQuiet_nil ?_
          rintro w6 ⟨⟨w7, b7⟩, rfl⟩
          have HB7 := Lib.hid b7
          clear b7 d1 d2 d3
          go_wp2
          go_roundw
          case rel => exact ⟨k + 1, by go_num, by rw [HL.out]; omega, by rw [HTI.out, HIT.out]; simpa using HO.out.keep HB7.out, HKP.out.trans HB7.out⟩
          case measure => simp [intOf]; omega
      · have HIT := Lib.hid (show inQ p q x = false from by rw [HIN.out, decide_eq_false (show ¬ 0 ≤ z1 by omega)]; rfl)
        have hd1 : decide (z1 ≥ 0) = false := decide_eq_false h1
        have hd2 : decide (0 ≤ z1) = false := decide_eq_false h1
        go_wp2_with fail
        refine wp_region_keep (Keep.refl _) (by kernel_rfl) (by kernel_rfl) ?_
        repeat (first | go_big_quiet_step (fail) | quiet_step (fail))
        first | go_big_quiet_step (exact HG1.out.at _) | quiet_step (exact HG1.out.at _)
        repeat (first | go_big_quiet_step (fail) | quiet_step (fail))
        refine wpQuiet_nil ?_
        rintro w6 ⟨⟨w7, b7⟩, rfl⟩
        have HB7 := Lib.hid b7
        clear b7 d1 d2 d3
        go_wp2
        go_roundw
        case rel => exact ⟨k + 1, by go_num, by rw [HL.out]; omega, by rw [HTI.out, HIT.out]; simpa using HO.out.keep HB7.out, HKP.out.trans HB7.out⟩
        case measure => simp [intOf]; omega
    · have HRW := Lib.hid (show Row rl 34 wr _ (l.filter (inQ p q)) from by
        have := HO.out.row elR
        rw [List.take_of_length_le (by rw [HL.out]; omega)] at this
        exact this)
      go_wp2
      go_ret
      exact ⟨_, rfl, HRW.out, HS.out.trans HKP.out⟩
end Go.Proofs.Ytgocmolebanflaa
