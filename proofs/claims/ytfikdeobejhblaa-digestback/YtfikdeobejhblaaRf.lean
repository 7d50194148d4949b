/- Proved: what the document's Find answers; one of a list of one's own turned. Condition: lists are short enough for memory. -/
import Derived.Test.YtfikdeobejhblaaSm
namespace Go.Proofs.Ytfikdeobejhblaa
open Go.RowKit

/-- Where a prefix is first. -/
def Fnd (l : List Rt) (p : Px) (z : Int) : Prop := (z = -1 ∧ hasP l p = false) ∨ ∃ (k : Nat) (x : Rt), z = k ∧ l[k]? = some x ∧ x.to = p
theorem find_rank {l : List Rt} (hs : Sorted l) {p : Px} (hp : L16 p) {k : Nat} {x : Rt} (hx : l[k]? = some x) (he : x.to = p) : hasP l p = true ∧ rank l p = k := by
  have hh : hasP l p = true := by
    simp only [hasP, List.any_eq_true, decide_eq_true_eq]
    exact ⟨x, List.mem_of_getElem? hx, he⟩
  refine ⟨hh, ?_⟩
  obtain ⟨y, hy, hye⟩ := (has_rank hs hp).1 hh
  have h1 : ¬ k < rank l p := fun h => by
    have := (lt_rank hs hp k x hx).2 h
    rw [(cmp_zero x.ok hp).2 he] at this
    omega
  rcases Nat.lt_or_ge (rank l p) k with h | h
  · obtain ⟨i1, e1⟩ := List.getElem?_eq_some_iff.1 hy
    obtain ⟨i2, e2⟩ := List.getElem?_eq_some_iff.1 hx
    have := List.pairwise_iff_getElem.1 hs _ _ i1 i2 h
    rw [e1, e2, he, hye, (cmp_zero hp hp).2 rfl] at this
    omega
  · omega
def FdRel (W : World) (l : List Rt) (p : Px) (i : Value) (wr : World) : Prop := ∃ k : Nat, i = .int .i64 k ∧ k ≤ l.length ∧ (∀ (j : Nat) (x : Rt), j < k → l[j]? = some x → x.to ≠ p) ∧ Keep W wr

set_option maxRecDepth 100000 in
set_option maxHeartbeats 1000000 in
theorem find (v : Value) (l : List Rt) (p : Px) (hp : L16 p) (w : World) (h : Cells rl w v l) (hl : l.length ≤ 1000000) : Calls Try.prog 79 #[v, .agg (pc p)] w fun e w' => ∃ z, e = .returned (.int .i64 z) ∧ Fnd l p z ∧ Keep w w' := by
  obtain ⟨a, cap, rfl, _, _⟩ := h.form
  have hA := (one_at w p hp).1
  have hS : Keep w (w.alloc (.cells (pc p) 34)) := (Keep.refl w).alloc _
  obtain ⟨n, hn⟩ : ∃ n, n = 20 := ⟨20, rfl⟩
  have hsz : ∀ w, (Go.sizeOf 37).run Try.prog w = .ok n w := fun w => by rw [hn]; exact Try.sizeOf37 w
  have hn0 : ¬ n = 0 := by omega
  obtain ⟨n2, hn2⟩ : ∃ n, n = 18 := ⟨18, rfl⟩
  have hsz2 : ∀ w, (Go.sizeOf 34).run Try.prog w = .ok n2 w := fun w => by rw [hn2]; exact Try.sizeOf34 w
  have hn20 : ¬ n2 = 0 := by omega
  have HN := Lib.hid hn
  have HN2 := Lib.hid hn2
  have HA := Lib.hid hA
  have HS := Lib.hid hS
  have H := Lib.hid (h.keep hS)
  obtain ⟨L, hL⟩ : ∃ n, l.length = n := ⟨_, rfl⟩
  have HL := Lib.hid hL
  rw [hL] at H hl ⊢
  clear h hA hS hn hn2 hL
  go_enter Try.func79, Try.ntmps79
  go_wp2
  go_loopw [5] (fun i wr => FdRel (w.alloc (.cells (pc p) 34)) l p i wr) (fun i _ => L - (intOf i).toNat)
  case atStart => exact ⟨0, rfl, Nat.zero_le _, fun j x hj => by omega, Keep.refl _⟩
  case round =>
    obtain ⟨k, rfl, hk, hno, hkp⟩ := hrel
    rw [HL.out] at hk
    by_cases hlt : k < L
    · have hcl : Cells rl (w.alloc (.cells (pc p) 34)) (.slice a l.length cap) l := by rw [HL.out]; exact H.out
      obtain ⟨g, o, cap', e, _, _, _⟩ := hcl.ptr k (by rw [HL.out]; exact hlt)
      rw [HL.out] at e
      simp at e
      obtain ⟨rfl, rfl⟩ := e
      obtain ⟨x, hx⟩ : ∃ x, l[k]? = some x := ⟨_, List.getElem?_eq_getElem (by rw [HL.out]; exact hlt)⟩
      have d1 : ∀ u : KW wr, (loadCellsFrom ⟨g, o + k * n, none⟩ 0 n2 #[]).run Try.prog u.1 = .ok (pc x.to) u.1 := fun u => (hcl.keep (hkp.trans u.2)).to HN2.out HN.out k x hx
      have d2 : ∀ u : KW wr, (loadCellsFrom ⟨w.heap.size, 0, none⟩ 0 n2 #[]).run Try.prog u.1 = .ok (pc p) u.1 := fun u => (show At u.1 w.heap.size p from ⟨(hkp.trans u.2).obj HA.out.block, hp⟩).whole HN2.out
      have heq : ∀ w, (Op.equalIn 10000 34 (.agg (pc x.to)) (.agg (pc p))).run Try.prog w = .ok (decide (x.to = p)) w := fun w => eq_pcd 9996 x.to p x.ok hp w
      have HX := Lib.hid hx
      have HNO := Lib.hid hno
      have HKP := Lib.hid hkp
      clear hcl hx hno hkp
      by_cases hxp : x.to = p
      · simp only [decide_eq_true hxp] at heq
        have HXP := Lib.hid hxp
        clear hxp
        generalize pc x.to = X at *
        go_wp2_with fail
        refine wp_region_keep (Keep.refl _) (by kernel_rfl) (by kernel_rfl) ?_
        repeat (first | go_big_quiet_step (fail) | quiet_step (fail))
        refine wpQuiet_nil ?_
        rintro w6 ⟨⟨w7, b7⟩, rfl⟩
        have HK7 := Lib.hid (HS.out.trans (HKP.out.trans b7))
        clear b7 d1 d2 heq
        go_wp2
        go_ret
        exact ⟨_, rfl, .inr ⟨k, x, rfl, HX.out, HXP.out⟩, HK7.out⟩
      · simp only [decide_eq_false hxp] at heq
        have HXP := Lib.hid hxp
        clear hxp
        generalize pc x.to = X at *
        go_wp2_with fail
        refine wp_region_keep (Keep.refl _) (by kernel_rfl) (by kernel_rfl) ?_
        repeat (first | go_big_quiet_step (fail) | quiet_step (fail))
        refine wpQuiet_nil ?_
        rintro w6 ⟨⟨w7, b7⟩, rfl⟩
        have HK7 := Lib.hid (HKP.out.trans b7)
        clear b7 d1 d2 heq
        go_wp2
        go_roundw
        case rel => exact ⟨k + 1, by go_num, by rw [HL.out]; omega, fun j y hj hy => by
          rcases Nat.lt_or_ge j k with h | h
          · exact HNO.out j y h hy
          · obtain rfl : j = k := by omega
            rw [HX.out] at hy
            simp at hy
            rw [← hy]
            exact HXP.out, HK7.out⟩
        case measure => simp [intOf]; omega
    · have HF := Lib.hid (show Fnd l p (-1) from .inl ⟨rfl, by
        cases hh : hasP l p
        · rfl
        · simp only [hasP, List.any_eq_true, decide_eq_true_eq] at hh
          obtain ⟨y, hm, hy⟩ := hh
          obtain ⟨j, hj, he⟩ := List.mem_iff_getElem.1 hm
          exact absurd hy (hno j y (by rw [HL.out] at hj; omega) (by rw [← he]; exact List.getElem?_eq_getElem hj))⟩)
      have HKP := Lib.hid hkp
      clear hno hkp
      go_wp2
      go_ret
      exact ⟨_, rfl, HF.out, HS.out.trans HKP.out⟩

theorem flat_set (l : List Rt) (k : Nat) (hk : k < l.length) (r : Rt) : flat rl (l.set k r) = (flat rl l).take (k * 20) ++ rl r ++ (flat rl l).drop (k * 20 + 20) := by
  rw [List.set_eq_take_append_cons_drop, if_pos hk, flat_append, flat_cons, flat_take rl rl_len, show k * 20 + 20 = (k + 1) * 20 by omega, flat_drop rl rl_len, List.append_assoc]
end Go.Proofs.Ytfikdeobejhblaa
