/- Proved: what the document's last, drop and put of layer 8 answer. Condition: lists are short enough for memory; routes are in order. -/
import Derived.Test.YtgkgpdlakamgiaaGreatJr
import Derived.Test.YtgkgpdlakamgiaaGreatRq
import Derived.Deep.RegionHeldLaw
import Derived.Deep.RegionLaw
namespace Go.Proofs.YtgkgpdlakamgiaaGreat
open Go.RowKit

/-- The last one ahead of a place, of one prefix. -/
def LastIs (l : List Ic) (at' : Nat) (p : Px) (z : Int) : Prop := (z = -1 ∧ ∀ j x, j < at' → l[j]? = some x → x.route.to ≠ p) ∨ ∃ (k : Nat) (x : Ic), z = k ∧ k < at' ∧ l[k]? = some x ∧ x.route.to = p ∧ ∀ j y, k < j → j < at' → l[j]? = some y → y.route.to ≠ p
def LaRel (w : World) (l : List Ic) (at' : Nat) (p : Px) (iv : Value) (wr : World) : Prop := ∃ m : Nat, iv = .int .i64 ((m : Int) - 1) ∧ m ≤ at' ∧ (∀ j y, m ≤ j → j < at' → l[j]? = some y → y.route.to ≠ p) ∧ Keep w wr
set_option maxRecDepth 100000 in
set_option maxHeartbeats 2000000 in
theorem qlast (v : Value) (l : List Ic) (at' : Nat) (y : Ic) (w : World) (h : Cells il w v l) (hl : l.length ≤ 1000000) (hy : l[at']? = some y) : Calls Tryz.prog 52 #[v, .int .i64 (at' : Nat)] w fun e w' => ∃ z, e = .returned (.int .i64 z) ∧ LastIs l at' y.route.to z ∧ Keep w w' := by
  have hat := (List.getElem?_eq_some_iff.1 hy).1
  obtain ⟨g, o, cap, e, _, _, _⟩ := h.ptr at' hat
  obtain ⟨n, hn⟩ : ∃ n, n = 21 := ⟨21, rfl⟩
  have hsz : ∀ w, (Go.sizeOf 59).run Tryz.prog w = .ok n w := fun w => by rw [hn]; exact Tryz.sizeOf59 w
  have hn0 : ¬ n = 0 := by omega
  obtain ⟨n2, hn2⟩ : ∃ n, n = 18 := ⟨18, rfl⟩
  have hsz2 : ∀ w, (Go.sizeOf 54).run Tryz.prog w = .ok n2 w := fun w => by rw [hn2]; exact Tryz.sizeOf54 w
  have hn20 : ¬ n2 = 0 := by omega
  have HN := Lib.hid hn
  have HN2 := Lib.hid hn2
  rw [e] at h
  have HC := Lib.hid h
  have HY := Lib.hid hy
  subst e
  obtain ⟨N, hN⟩ : ∃ N, l.length = N := ⟨_, rfl⟩
  have HLN := Lib.hid hN
  rw [hN] at hl hat ⊢
  clear hn hn2 h hy hN
  go_enter Tryz.func52, Tryz.ntmps52
  go_wp2
  go_loopw [5] (fun iv wr => LaRel w l at' y.route.to iv wr) (fun iv _ => (intOf iv + 1).toNat)
  case atStart => exact ⟨at', rfl, Nat.le_refl _, fun j y h1 h2 => by omega, Keep.refl _⟩
  case round =>
    obtain ⟨m, rfl, hm, hno, hk⟩ := hrel
    have HNo := Lib.hid hno
    have HK := Lib.hid hk
    clear hno hk
    cases m with
    | zero =>
      have e0 : (((0 : Nat) : Int) - 1) = -1 := rfl
      rw [e0]
      go_wp2
      go_ret
      exact ⟨-1, rfl, .inl ⟨rfl, fun j x h1 h2 => HNo.out j x (Nat.zero_le _) h1 h2⟩, HK.out⟩
    | succ t =>
      have e0 : (((t + 1 : Nat) : Int) - 1) = (t : Int) := by omega
      rw [e0]
      have htN : t < N := by omega
      obtain ⟨x, hx⟩ : ∃ x, l[t]? = some x := ⟨_, List.getElem?_eq_getElem (by rw [HLN.out]; exact htN)⟩
      have d1 : ∀ u : KW wr, (loadCellsFrom ⟨g, o + t * n + 1, none⟩ 0 n2 #[]).run Tryz.prog u.1 = .ok (pc x.route.to) u.1 := fun u => (HC.out.keep (HK.out.trans u.2)).icto HN2.out HN.out t x hx
      have d2 : ∀ u : KW wr, (loadCellsFrom ⟨g, o + at' * n + 1, none⟩ 0 n2 #[]).run Tryz.prog u.1 = .ok (pc y.route.to) u.1 := fun u => (HC.out.keep (HK.out.trans u.2)).icto HN2.out HN.out at' y HY.out
      have heq : ∀ w, (Op.equalIn 10000 54 (.agg (pc x.route.to)) (.agg (pc y.route.to))).run Tryz.prog w = .ok (decide (x.route.to = y.route.to)) w := fun w => eq_pcd 9996 x.route.to y.route.to x.route.ok y.route.ok w
      have HX := Lib.hid hx
      clear hx
      by_cases hxy : x.route.to = y.route.to
      · simp only [decide_eq_true hxy] at heq
        have HXY := Lib.hid hxy
        clear hxy
        generalize pc x.route.to = A at *
        generalize pc y.route.to = B at *
        go_wp2_with fail
        refine wp_region_keep (Keep.refl _) (by kernel_rfl) (by kernel_rfl) ?_
        repeat (first | go_big_quiet_step (fail) | quiet_step (fail))
        refine wpQuiet_nil ?_
        rintro w6 ⟨⟨w7, b7⟩, rfl⟩
        have HK7 := Lib.hid (HK.out.trans b7)
        clear b7 d1 d2 heq
        go_wp2
        go_ret
        exact ⟨t, rfl, .inr ⟨t, x, rfl, by omega, HX.out, HXY.out, fun j z h1 h2 h3 => HNo.out j z (by omega) h2 h3⟩, HK7.out⟩
      · simp only [decide_eq_false hxy] at heq
        have HXY := Lib.hid hxy
        clear hxy
        generalize pc x.route.to = A at *
        generalize pc y.route.to = B at *
        go_wp2_with fail
        refine wp_region_keep (Keep.refl _) (by kernel_rfl) (by kernel_rfl) ?_
        repeat (first | go_big_quiet_step (fail) | quiet_step (fail))
        refine wpQuiet_nil ?_
        rintro w6 ⟨⟨w7, b7⟩, rfl⟩
        have HK7 := Lib.hid (HK.out.trans b7)
        clear b7 d1 d2 heq
        go_wp2
        go_roundw
        case rel =>
          refine ⟨t, by go_num, by omega, fun j z h1 h2 h3 => ?_, HK7.out⟩
          rcases Nat.lt_or_ge t j with h4 | h4
          · exact HNo.out j z (by omega) h2 h3
          · obtain rfl : j = t := by omega
            rw [HX.out] at h3
            simp only [Option.some.injEq] at h3
            rw [← h3]
            exact HXY.out
        case measure => simp [intOf]

def DropPost8 (w : World) (x : List Rt) (e : Ending) (w' : World) : Prop := ∃ v', e = .returned v' ∧ Row rl 57 w' v' x ∧ Keep w w'

set_option maxRecDepth 100000 in
set_option maxHeartbeats 2000000 in
theorem qdrop8 (v : Value) (l : List Rt) (p : Px) (hp : L16 p) (w : World) (h : Row rl 57 w v l) (hs : Sorted l) (hl : l.length ≤ 300) : Calls Tryz.prog 54 #[v, .agg (pc p)] w (DropPost8 w (dropS l p).1) := by
  have hA := (one_at w p hp).1
  have hS : Keep w (w.alloc (.cells (pc p) 54)) := (Keep.refl w).alloc _
  obtain ⟨n2, hn2⟩ : ∃ n, n = 18 := ⟨18, rfl⟩
  have hsz2 : ∀ w, (Go.sizeOf 54).run Tryz.prog w = .ok n2 w := fun w => by rw [hn2]; exact Tryz.sizeOf54 w
  have hn20 : ¬ n2 = 0 := by omega
  have h1 := hA.whole hn2
  have HS := Lib.hid hS
  have HV := Lib.hid (h.keep hS)
  have HF := Lib.hid (find v l p hp _ HV.out.cells (by omega))
  obtain ⟨X, hX⟩ : ∃ X, (dropS l p).1 = X := ⟨_, rfl⟩
  rw [hX]
  have HX := Lib.hid hX
  have HSO := Lib.hid hs
  clear hA hS hn2 h hX hs
  go_enter Tryz.func54, Tryz.ntmps54
  go_wp2_with fail
  refine HF.out.mono ?_
  rintro e w2 ⟨z, rfl, hf, b2⟩
  have HV2 := Lib.hid (HV.out.keep b2)
  have HK2 := Lib.hid (HS.out.trans b2)
  clear h1 b2 HV HS HF
  rcases hf with ⟨rfl, hh⟩ | ⟨k, x, rfl, hx, he⟩
  · have HXE := Lib.hid (show X = l from by rw [← HX.out]; unfold dropS; rw [if_neg (by simp [hh])])
    clear hh
    go_wp2
    go_ret
    exact ⟨v, rfl, by rw [HXE.out]; exact HV2.out, HK2.out⟩
  · obtain ⟨hh, hrk⟩ := find_rank HSO.out hp hx he
    have HXE := Lib.hid (show X = l.take k ++ l.drop (k + 1) from by rw [← HX.out]; unfold dropS cutP; rw [if_pos hh, hrk])
    have hkL : k < l.length := (List.getElem?_eq_some_iff.1 hx).1
    obtain ⟨v1, s1, r1⟩ := cut_to HV2.out k (by omega)
    obtain ⟨v3, s3, r3⟩ := cut_from HV2.out (k + 1) (by omega)
    have s3' : ∀ w', (Instr.sliceAt 36 v (some (.int .i64 ((k : Int) + 1))) none none).run Tryz.prog w' = .ok v3 w' := fun w' => by
      have := s3 w'
      rwa [show ((k + 1 : Nat) : Int) = (k : Int) + 1 by omega] at this
    have hkI : ¬ ((k : Int) < 0) := by omega
    have hwr : IntKind.i64.wrap ((k : Int) + 1) = (k : Int) + 1 := by simp [IntKind.wrap, IntKind.bits, IntKind.signed]; omega
    have hk2 : k ≤ 1000000 := by omega
    have HK3 := Lib.hid (show Keep w2 (w2.alloc (.cells #[] 57)).drew from ((Keep.refl w2).alloc _).drew)
    have HO := Lib.hid ((Own.made (t := 57) (k := 20) (enc := rl) w2.heap.size w2 (Nat.le_refl _)).keep (show Keep _ (w2.alloc (.cells #[] 57)).drew from (Keep.refl _).drew))
    have hsz3 : w2.heap.size ≤ (w2.alloc (.cells #[] 57)).drew.heap.size := HK3.out.size
    have R1 := Lib.hid (r1.keep HK3.out)
    have R3 := Lib.hid (r3.keep HK3.out)
    have R30 := Lib.hid r3
    have q1 : (([] : List Rt).length + (l.take k).length) * 48 ≤ 140737488355328 := by simp; omega
    have q2 : ([] : List Rt).length + (l.take k).length ≤ 1000000 := by simp; omega
    have q3 : ((l.take k).length + (l.drop (k + 1)).length) * 48 ≤ 140737488355328 := by simp; omega
    have q4 : (l.take k).length + (l.drop (k + 1)).length ≤ 1000000 := by simp; omega
    have Q1 := Lib.hid q1
    have Q2 := Lib.hid q2
    have Q3 := Lib.hid q3
    have Q4 := Lib.hid q4
    clear hh hrk hx he s3 r1 r3 q1 q2 q3 q4
    go_wp2_with fail
    go_region_held_law (fun _ => True) (trivial) ((first | (refine step_app elR (by rfl) _ _ (by rfl) w2.heap.size _ _ [] (l.take k) (by rfl) (by rfl) HO.out R1.out.cells Q1.out Q2.out hsz3 ?_; intro v7 w7 o7 g7) | (refine step_app elR (by rfl) _ _ (by rfl) w2.heap.size _ _ (l.take k) (l.drop (k + 1)) (by rfl) (by rfl) o7 (R30.out.keep (HO.out.grown HK3.out (Nat.le_refl _) g7)).cells Q3.out Q4.out (HO.out.grown HK3.out (Nat.le_refl _) g7).size ?_; intro v8 w8 o8 g8)))
    all_goals
      have HK7 := Lib.hid (HO.out.grown HK3.out (Nat.le_refl _) g7)
      have HK8 := Lib.hid (HK2.out.trans (Own.grown o7 HK7.out (Nat.le_refl _) g8))
      have HR8 := Lib.hid (Own.row elR o8)
      clear o7 g7 o8 g8
      go_wp2
      go_ret
      exact ⟨v8, by first | rfl | simp, by rw [HXE.out]; exact HR8.out, HK8.out⟩
end Go.Proofs.YtgkgpdlakamgiaaGreat
