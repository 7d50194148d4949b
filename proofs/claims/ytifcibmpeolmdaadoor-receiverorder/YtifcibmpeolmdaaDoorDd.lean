/- Proved: what the document's May, New and Take answer, and what they do to memory. Condition: what it is made of may be; the receiver lies in memory. -/
import Derived.Test.YtifcibmpeolmdaaDoorDc
import Derived.Test.YtifcibmpeolmdaaDoorPe
import Derived.BigRegion
namespace Go.Proofs.YtifcibmpeolmdaaDoor
open Go.RowKit

set_option maxRecDepth 100000 in
theorem qmay_at (a c n : Int) (w : World) : Calls Tryd.prog 12 #[.int .i64 a, .int .i64 c, .int .i64 n] w fun e w' => e = .returned (.bool (decide (mayR a c n))) ∧ w' = w := by
  have HM : decide (mayR a c n) = (decide (0 ≤ a) && (decide (a < 4294967296) && (decide (0 ≤ c) && (decide (c < 4294967296) && (decide (1 ≤ n) && decide (n ≤ 256)))))) := by
    rw [Bool.eq_iff_iff]
    simp only [Bool.and_eq_true, decide_eq_true_eq]
    unfold mayR
    constructor
    · rintro ⟨⟨h1, h2⟩, ⟨h3, h4⟩, h5, h6⟩
      exact ⟨h1, h2, h3, h4, h5, h6⟩
    · rintro ⟨h1, h2, h3, h4, h5, h6⟩
      exact ⟨⟨h1, h2⟩, ⟨h3, h4⟩, h5, h6⟩
  rw [HM]
  clear HM
  by_cases q0 : 0 ≤ a
  rotate_left
  · have e0 : decide (a ≥ 0) = false := decide_eq_false q0
    rw [decide_eq_false q0]
    simp only [Bool.false_and]
    go_enter Tryd.func12, Tryd.ntmps12
    go_wp2
    go_ret
    exact ⟨rfl, rfl⟩
  have e0 : decide (a ≥ 0) = true := decide_eq_true q0
  rw [decide_eq_true q0]
  simp only [Bool.true_and]
  by_cases q1 : a < 4294967296
  rotate_left
  · have e1 : decide (a < 4294967296) = false := decide_eq_false q1
    rw [decide_eq_false q1]
    simp only [Bool.false_and]
    go_enter Tryd.func12, Tryd.ntmps12
    go_wp2
    go_ret
    exact ⟨rfl, rfl⟩
  have e1 : decide (a < 4294967296) = true := decide_eq_true q1
  rw [decide_eq_true q1]
  simp only [Bool.true_and]
  by_cases q2 : 0 ≤ c
  rotate_left
  · have e2 : decide (c ≥ 0) = false := decide_eq_false q2
    rw [decide_eq_false q2]
    simp only [Bool.false_and]
    go_enter Tryd.func12, Tryd.ntmps12
    go_wp2
    go_ret
    exact ⟨rfl, rfl⟩
  have e2 : decide (c ≥ 0) = true := decide_eq_true q2
  rw [decide_eq_true q2]
  simp only [Bool.true_and]
  by_cases q3 : c < 4294967296
  rotate_left
  · have e3 : decide (c < 4294967296) = false := decide_eq_false q3
    rw [decide_eq_false q3]
    simp only [Bool.false_and]
    go_enter Tryd.func12, Tryd.ntmps12
    go_wp2
    go_ret
    exact ⟨rfl, rfl⟩
  have e3 : decide (c < 4294967296) = true := decide_eq_true q3
  rw [decide_eq_true q3]
  simp only [Bool.true_and]
  by_cases q4 : 1 ≤ n
  rotate_left
  · have e4 : decide (n ≥ 1) = false := decide_eq_false q4
    rw [decide_eq_false q4]
    simp only [Bool.false_and]
    go_enter Tryd.func12, Tryd.ntmps12
    go_wp2
    go_ret
    exact ⟨rfl, rfl⟩
  have e4 : decide (n ≥ 1) = true := decide_eq_true q4
  rw [decide_eq_true q4]
  simp only [Bool.true_and]
  by_cases q5 : n ≤ 256
  rotate_left
  · have e5 : decide (n ≤ 256) = false := decide_eq_false q5
    rw [decide_eq_false q5]
    go_enter Tryd.func12, Tryd.ntmps12
    go_wp2
    go_ret
    exact ⟨rfl, rfl⟩
  have e5 : decide (n ≤ 256) = true := decide_eq_true q5
  rw [decide_eq_true q5]
  go_enter Tryd.func12, Tryd.ntmps12
  go_wp2
  go_ret
  exact ⟨rfl, rfl⟩

def y5 : Array Value := #[.int .i64 0, .int .i64 0, .slice none 0 0, .slice none 0 0, .slice none 0 0]
theorem infoQ : (Tryd.prog.info? 41).map (fun i => (i.zero, i.size)) = some (some (.agg y5), 5) := by kernel_rfl
theorem underQ : (Tryd.prog.underlying 41).bind (fun d => match d with | .struct fs => fs.toList.mapM (fun f => (Tryd.prog.info? f.type).map fun i => (f.offset, i.size)) | _ => none) = some [(0, 1), (1, 1), (2, 1), (3, 1), (4, 1)] := by kernel_rfl
theorem build_ref (x y : Int) (n : Nat) (p q s : Nat) (w : World) : (Instr.build 41 #[(0, .int .i64 x), (1, .int .i64 y), (2, .slice (some ⟨p, 0, none⟩) n n), (3, .slice (some ⟨q, 0, none⟩) n n), (4, .slice (some ⟨s, 0, none⟩) 20 20)]).run Tryd.prog w =
    .ok (.agg #[.int .i64 x, .int .i64 y, .slice (some ⟨p, 0, none⟩) n n, .slice (some ⟨q, 0, none⟩) n n, .slice (some ⟨s, 0, none⟩) 20 20]) w := by
  refine run_build w 41 _ _ ?_
  rw [built_of infoQ underQ]
  simp only [Value.cells]
  rw [fill_cell _ _ 0 _ _ rfl rfl (by decide), fill_cell _ _ 1 _ _ rfl rfl (by simp [y5]), fill_cell _ _ 2 _ _ rfl rfl (by simp [y5]), fill_cell _ _ 3 _ _ rfl rfl (by simp [y5]), fill_cell _ _ 4 _ _ rfl rfl (by simp [y5]), Instr.fill]
  simp [y5]
/-- The three lists lie in p, q, s, the receiver behind them. -/
theorem R.made {w w3 : World} {x y : Int} {p q s n : Nat} (h : mayR x y n) (k : Keep w w3)
    (hp : w3.heap[p]? = some (.cells (bc8 (List.replicate n false)) 4 (0, 0))) (hq : w3.heap[q]? = some (.cells (tc (List.replicate n [])) 9 (0, 0))) (hs : w3.heap[s]? = some (.cells (nc (List.replicate 20 0)) 3 (0, 0)))
    (h0 : 0 < w.heap.size) (kp : w.heap.size ≤ p) (kq : w.heap.size ≤ q) (ks : w.heap.size ≤ s) (npq : p ≠ q) (nps : p ≠ s) (nqs : q ≠ s) :
    R (w3.alloc (.cells #[.int .i64 x, .int .i64 y, .slice (some ⟨p, 0, none⟩) n n, .slice (some ⟨q, 0, none⟩) n n, .slice (some ⟨s, 0, none⟩) 20 20] 41)) w3.heap.size p q s (newR x y n) := by
  have k4 : Keep w3 (w3.alloc (.cells #[.int .i64 x, .int .i64 y, .slice (some ⟨p, 0, none⟩) n n, .slice (some ⟨q, 0, none⟩) n n, .slice (some ⟨s, 0, none⟩) 20 20] 41)) := (Keep.refl w3).alloc _
  have lp := block_lt hp
  have lq := block_lt hq
  have ls := block_lt hs
  have kz := k.size
  have ed : dl (newR x y n).d = List.replicate 20 0 := by
    show dl (fun _ => 0) = _
    decide
  refine ⟨?_, k4.obj hp, k4.obj hq, by rw [ed]; exact k4.obj hs, ?_, by omega, by omega, by omega, npq, nps, nqs, Good.new h⟩
  · rw [heap_alloc_last]
    simp [dc, newR]
  · simp only [List.mem_cons, List.not_mem_nil, or_false]
    omega
theorem new_fin {w u w9 : World} {x y : Int} {p q s n g : Nat} {A B C : Obj}
    (h9 : w9 = (((u.alloc A).alloc B).alloc C).alloc (.cells #[.int .i64 x, .int .i64 y, .slice (some ⟨p, 0, none⟩) n n, .slice (some ⟨q, 0, none⟩) n n, .slice (some ⟨s, 0, none⟩) 20 20] 41) ∨
      w9 = ((((u.alloc A).alloc B).alloc C).alloc (.cells #[.int .i64 x, .int .i64 y, .slice (some ⟨p, 0, none⟩) n n, .slice (some ⟨q, 0, none⟩) n n, .slice (some ⟨s, 0, none⟩) 20 20] 41)).drew)
    (hg : u.heap.size + 1 + 1 + 1 = g) (k : Keep w u) (h : mayR x y n) (h0 : 0 < w.heap.size)
    (hp : (((u.alloc A).alloc B).alloc C).heap[p]? = some (.cells (bc8 (List.replicate n false)) 4 (0, 0))) (hq : (((u.alloc A).alloc B).alloc C).heap[q]? = some (.cells (tc (List.replicate n [])) 9 (0, 0))) (hs : (((u.alloc A).alloc B).alloc C).heap[s]? = some (.cells (nc (List.replicate 20 0)) 3 (0, 0)))
    (kp : u.heap.size ≤ p) (kq : u.heap.size ≤ q) (kr : u.heap.size ≤ s) (npq : p ≠ q) (nps : p ≠ s) (nqs : q ≠ s) :
    ∃ g' bi bc bd, Ending.returned (.pointer (some ⟨g, 0, none⟩)) = .returned (.pointer (some ⟨g', 0, none⟩)) ∧ R w9 g' bi bc bd (newR x y n) ∧ (∀ z ∈ [g', bi, bc, bd], w.heap.size ≤ z) ∧ Keep w w9 := by
  have k3 : Keep w (((u.alloc A).alloc B).alloc C) := ((k.alloc A).alloc B).alloc C
  have ks := k.size
  have e : (((u.alloc A).alloc B).alloc C).heap.size = g := by rw [← hg]; simp
  have hR := R.made h k3 hp hq hs h0 (by omega) (by omega) (by omega) npq nps nqs
  rw [e] at hR
  refine ⟨g, p, q, s, rfl, ?_, by simp only [List.mem_cons, List.not_mem_nil, or_false]; omega, ?_⟩
  · rcases h9 with rfl | rfl
    · exact hR
    · exact hR.keep (Keep.refl _).drew
  · rcases h9 with rfl | rfl
    · exact k3.alloc _
    · exact (k3.alloc _).drew
set_option maxRecDepth 100000 in
set_option maxHeartbeats 2000000 in
theorem qnew_at (x y : Int) (n : Nat) (h : mayR x y n) (w : World) (h0 : 0 < w.heap.size) : Calls Tryd.prog 13 #[.int .i64 x, .int .i64 y, .int .i64 n] w fun e w' =>
    ∃ g bi bc bd, e = .returned (.pointer (some ⟨g, 0, none⟩)) ∧ R w' g bi bc bd (newR x y n) ∧ (∀ z ∈ [g, bi, bc, bd], w.heap.size ≤ z) ∧ Keep w w' := by
  have m1 := mk_bools n (by have := h.2.2.2; omega)
  have m2 := mk_texts n (by have := h.2.2.2; omega)
  have m3 := mk_ints 20 (by omega)
  have HB := fun p q r w => build_ref x y n p q r w
  have HH := Lib.hid (And.intro h h0)
  clear h h0
  generalize hb0 : bc8 (List.replicate n false) = B0 at *
  generalize hn0 : tc (List.replicate n []) = N0 at *
  generalize hc0 : nc (List.replicate 20 0) = C0 at *
  have HB0 := Lib.hid hb0
  have HN0 := Lib.hid hn0
  have HC0 := Lib.hid hc0
  clear hb0 hn0 hc0
  rw [show ((20 : Nat) : Int) = 20 from rfl] at m3
  go_enter Tryd.func13, Tryd.ntmps13
  go_wp2_with fail
  go_region
  all_goals
    have hh := HH.out
    have e1 := HB0.out
    have e2 := HN0.out
    have e3 := HC0.out
    go_wp2
    go_ret
    subst e1 e2 e3
    refine new_fin (u := w) (by first | exact .inl rfl | exact .inr rfl) rfl (Keep.refl w) hh.1 hh.2 ?_ ?_ ?_ (by omega) (by omega) (by omega) (by omega) (by omega) (by omega)
    · first | exact (alloc3 _ _ _ _).1 | exact (alloc3 _ _ _ _).2.1 | exact (alloc3 _ _ _ _).2.2
    · first | exact (alloc3 _ _ _ _).1 | exact (alloc3 _ _ _ _).2.1 | exact (alloc3 _ _ _ _).2.2
    · first | exact (alloc3 _ _ _ _).1 | exact (alloc3 _ _ _ _).2.1 | exact (alloc3 _ _ _ _).2.2
end Go.Proofs.YtifcibmpeolmdaaDoor
