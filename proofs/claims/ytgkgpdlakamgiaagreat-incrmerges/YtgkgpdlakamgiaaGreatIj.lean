/- Proved: what the library's Grow and Concat answer over changes. Condition: lists are short enough for memory. -/
import Derived.Test.YtgkgpdlakamgiaaGreatXi
import Derived.Test.YtgkgpdlakamgiaaGreatIg
namespace Go.Proofs.YtgkgpdlakamgiaaGreat
open Go.RowKit

set_option maxRecDepth 100000 in
theorem growI (n : Nat) (hn : n ≤ 1000000) (w : World) : Calls Tryz.prog 81 #[.slice none 0 0, .int .i64 n] w fun e w' => ∃ v', e = .returned v' ∧ Own 59 21 il w.heap.size w' v' [] ∧ Keep w w' := by
  by_cases h0 : n = 0
  · subst h0
    go_enter Tryz.func81, Tryz.ntmps81
    go_wp2
    go_ret
    exact ⟨_, rfl, Own.nil _ _, Keep.refl _⟩
  · obtain ⟨G, C, hG, hG2, hC, hr⟩ : ∃ G C, n ≤ G ∧ G ≤ maxLen ∧ C.size = G * 21 ∧ ∀ ty, (Builtin.append_ #[22, 3] ty #[.slice none 0 0, .int .i64 n]).run Tryz.prog w = .ok (.slice (some ⟨w.heap.size, 0, none⟩) n G) (w.drew.alloc (.cells C 59)) := by
      obtain ⟨it, z, hi, hz, hsz, hby, hzs⟩ := elI.info
      refine ⟨grownCap w n 0 59, #[] ++ Builtin.zeroCells z.cells n ++ Builtin.zeroCells z.cells (grownCap w n 0 59 - n), ?_, ?_, ?_, fun ty => ?_⟩
      rotate_left 3
      · have h := Lib.run_append_grow_zeros (P := Tryz.prog) w 22 3 ty 59 it z .i64 .i64 elI.under (by kernel_rfl) hi hz none 0 0 [] (by exact run_firstCells_none w.drew it.size 0 0 0) n (by omega) (by omega) (by omega) (by omega) (by rw [hby]; omega) (by rw [Nat.zero_add, hby]; exact growslice_fits (by omega) (by omega))
        rw [Nat.zero_add] at h
        exact h
      · exact grownCap_ge w n 0 59
      · exact grownCap_le_maxLen w n 0 59 (by unfold maxLen; omega)
      · have := grownCap_ge w n 0 59
        simp only [Array.size_append, size_zeroCells, hzs, List.size_toArray, List.length_nil, Nat.zero_add]
        rw [← Nat.add_mul]
        congr 1
        omega
    have hpos : ¬ ((n : Int) < 0) := by omega
    have hpos2 : (n : Int) > 0 := by omega
    have hm : G ≤ 9223372036854775807 := by unfold maxLen at hG2; omega
    have HG2 := Lib.hid hG2
    have HC := Lib.hid hC
    clear hG2 hC
    go_enter Tryz.func81, Tryz.ntmps81
    go_wp2_with (at_builtin; refine Lib.wpList_append_run _ rfl _ _ _ _ rfl _ _ rfl rfl _ _ (hr _) ?_)
    go_ret
    refine ⟨_, rfl, ?_, ?_⟩
    · have := World.ownsRow_made (base := w.heap.size) (e := 59) (size := 21) w.drew C G (Nat.le_refl _) HG2.out HC.out
      exact this
    · exact ((Keep.refl w).drew).alloc _

set_option maxRecDepth 100000 in
/-- Two lists in a row of lists. -/
theorem concatI (v1 v2 : Value) (l1 l2 : List Ic) (g : Nat) (w : World) (hg : w.heap[g]? = some (.cells #[v1, v2] 22 (0, 0))) (h1 : Cells il w v1 l1) (h2 : Cells il w v2 l2) (hl : l1.length + l2.length ≤ 1000000) :
    Calls Tryz.prog 47 #[.slice (some ⟨g, 0, none⟩) 2 2] w fun e w' => ∃ v', e = .returned v' ∧ Own 59 21 il w.heap.size w' v' (l1 ++ l2) ∧ Keep w w' := by
  obtain ⟨a1, c1, rfl, _, _⟩ := h1.form
  obtain ⟨a2, c2, rfl, _, _⟩ := h2.form
  have e1 : w.cell? ⟨g, 0, none⟩ = some (.slice a1 l1.length c1) := cell_obj hg rfl
  have e2 : w.cell? ⟨g, 1, none⟩ = some (.slice a2 l2.length c2) := cell_obj hg rfl
  have HG := Lib.hid hg
  have H1 := Lib.hid h1
  have H2 := Lib.hid h2
  have HGr := Lib.hid (growI (l1.length + l2.length) (by omega) w)
  clear hg h1 h2
  have n1 : ¬ ((l1.length : Int) < 0) := by omega
  have n2 : ¬ ((l1.length : Int) + l2.length < 0) := by omega
  go_enter Tryz.func47, Tryz.ntmps47
  go_wp2
  refine wp_loop_rounds 3 ?_
  repeat any_goals (rw [rounds_succ]; go_wp2_with fail)
  refine (HGr.out).mono ?_
  rintro e w1 ⟨v1, rfl, o1, k1⟩
  have hg1 := k1.obj HG.out
  have e1 : w1.cell? ⟨g, 0, none⟩ = some (.slice a1 l1.length c1) := cell_obj hg1 rfl
  have HC1 := Lib.hid (H1.out.keep k1)
  have HO1 := Lib.hid o1
  have HK1 := Lib.hid k1
  have hsz1 : w.heap.size ≤ w1.heap.size := k1.size
  clear e2 o1 k1 hg1 n1 n2
  go_wp2
  refine wp_loop_rounds 3 ?_
  rw [rounds_succ]
  go_wp2_with (at_builtin; refine wp_app elI rfl _ _ rfl w.heap.size _ _ [] l1 rfl rfl HO1.out HC1.out ?q1 ?q2 ?q3 ?_)
  case q1 => (try simp); omega
  case q2 => (try simp); omega
  case q3 => exact hsz1
  intro v2 w2 o2 g2
  have k2 : Keep w w2 := HO1.out.grown HK1.out (Nat.le_refl _) g2
  have hg2 := k2.obj HG.out
  have e2 : w2.cell? ⟨g, 1, none⟩ = some (.slice a2 l2.length c2) := cell_obj hg2 rfl
  have HC2 := Lib.hid (H2.out.keep k2)
  have HO2 := Lib.hid o2
  have HK2 := Lib.hid k2
  have hsz2 : w.heap.size ≤ w2.heap.size := k2.size
  clear e1 hsz1 HC1 HO1 HK1 o2 g2 k2 hg2
  go_wp2
  rw [rounds_succ]
  go_wp2_with (at_builtin; refine wp_app elI rfl _ _ rfl w.heap.size _ _ l1 l2 rfl rfl HO2.out HC2.out ?r1 ?r2 ?r3 ?_)
  case r1 => (try simp); omega
  case r2 => (try simp); omega
  case r3 => exact hsz2
  intro v3 w3 o3 g3
  have HO3 := Lib.hid o3
  have HK3 := Lib.hid (show Keep w w3 from HO2.out.grown HK2.out (Nat.le_refl _) g3)
  clear e2 hsz2 HC2 HO2 HK2 o3 g3
  go_wp2
  rw [rounds_succ]
  go_wp2
  go_ret
  exact ⟨_, rfl, by simpa using HO3.out, HK3.out⟩
end Go.Proofs.YtgkgpdlakamgiaaGreat
