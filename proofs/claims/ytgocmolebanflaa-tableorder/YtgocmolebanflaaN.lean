/- Proved: parts of lists of routes; what becomes of a table when others come in the place of some of its routes. Condition: the places are there. -/
import Derived.Test.YtgocmolebanflaaL
import Derived.Deep.RegionHeld3
import Derived.Deep.RegionWith
namespace Go.Proofs.Ytgocmolebanflaa
open Go.RowKit

section
variable {w : World} {v : Value} {l : List Rt}
theorem cut_mid (h : Row rl 34 w v l) (i j : Nat) (hij : i ≤ j) (hj : j ≤ l.length) : ∃ v1, (∀ w', (Instr.sliceAt 31 v (some (.int .i64 i)) (some (.int .i64 j)) none).run Try.prog w' = .ok v1 w') ∧ Row rl 34 w v1 ((l.drop i).take (j - i)) := by
  have he : Try.prog.elem 31 = 34 := by kernel_rfl
  rcases h.cells with ⟨rfl, rfl⟩ | ⟨g, o, cap, rfl, h1, h2, h3, h4⟩
  · simp at hj
    subst hj
    obtain rfl : i = 0 := by omega
    exact ⟨.slice none 0 0, fun w' => by go_simp, by simpa using h⟩
  · have hm : cap ≤ 9223372036854775807 := by unfold maxLen at h2; omega
    have hjc : ¬ cap < j := by omega
    refine ⟨.slice (some ⟨g, if cap = i then o else o + i * 20, none⟩) (j - i) (cap - i), fun w' => ?_, ?_⟩
    · by_cases e : cap = i
      · subst e
        obtain rfl : j = cap := by omega
        rw [if_pos rfl]
        go_simp
      · rw [if_neg e]
        go_simp
    · exact h.part rl_len i j _ hij hj _ (fun hlt => by rw [if_neg (by omega)]) (by omega) (by omega)
theorem cut_to (h : Row rl 34 w v l) (j : Nat) (hj : j ≤ l.length) : ∃ v1, (∀ w', (Instr.sliceAt 31 v none (some (.int .i64 j)) none).run Try.prog w' = .ok v1 w') ∧ Row rl 34 w v1 (l.take j) := by
  have he : Try.prog.elem 31 = 34 := by kernel_rfl
  rcases h.cells with ⟨rfl, rfl⟩ | ⟨g, o, cap, rfl, h1, h2, h3, h4⟩
  · simp at hj
    subst hj
    exact ⟨.slice none 0 0, fun w' => by go_simp, by simpa using h⟩
  · have hm : cap ≤ 9223372036854775807 := by unfold maxLen at h2; omega
    have hjc : ¬ cap < j := by omega
    refine ⟨.slice (some ⟨g, o, none⟩) j cap, fun w' => ?_, ?_⟩
    · go_simp
    · have := h.part rl_len 0 j cap (Nat.zero_le _) hj o (fun _ => by omega) (by omega) (by omega)
      simpa using this
theorem cut_from (h : Row rl 34 w v l) (i : Nat) (hi : i ≤ l.length) : ∃ v1, (∀ w', (Instr.sliceAt 31 v (some (.int .i64 i)) none none).run Try.prog w' = .ok v1 w') ∧ Row rl 34 w v1 (l.drop i) := by
  have he : Try.prog.elem 31 = 34 := by kernel_rfl
  rcases h.cells with ⟨rfl, rfl⟩ | ⟨g, o, cap, rfl, h1, h2, h3, h4⟩
  · simp at hi
    subst hi
    exact ⟨.slice none 0 0, fun w' => by go_simp, by simpa using h⟩
  · have hm : cap ≤ 9223372036854775807 := by unfold maxLen at h2; omega
    refine ⟨.slice (some ⟨g, if cap = i then o else o + i * 20, none⟩) (l.length - i) (cap - i), fun w' => ?_, ?_⟩
    · by_cases e : cap = i
      · subst e
        have e2 : l.length = cap := by omega
        rw [if_pos rfl]
        go_simp
      · rw [if_neg e]
        go_simp
    · have := h.part rl_len i l.length (cap - i) hi (Nat.le_refl _) (if cap = i then o else o + i * 20) (fun hlt => by rw [if_neg (by omega)]) (by omega) (by omega)
      rwa [List.take_of_length_le (by rw [List.length_drop]; exact Nat.le_refl _)] at this
end

set_option maxRecDepth 100000 in
set_option maxHeartbeats 1000000 in
theorem replace (b : Nat) (l m : List Rt) (i j : Nat) (u : Value) (w : World) (h : Tb w b l) (hij : i ≤ j) (hj : j ≤ l.length) (hu : Row rl 34 w u m) (hm : m.length ≤ 1) (hs : Sorted (l.take i ++ m ++ l.drop j)) (hl : (l.take i ++ m ++ l.drop j).length ≤ 300) :
    Calls Try.prog 39 #[.pointer (some ⟨b, 0, none⟩), .int .i64 i, .int .i64 j, u] w fun e w' => e = .returned (.tuple #[]) ∧ Tb w' b (l.take i ++ m ++ l.drop j) ∧ Only b w w' := by
  obtain ⟨⟨v, h1, h2⟩, h3, h4⟩ := h
  obtain ⟨v1, s1, r1⟩ := cut_to h2 i (by omega)
  obtain ⟨v3, s3, r3⟩ := cut_from h2 j hj
  have cn : w.cell? ⟨b, 0, none⟩ = some v := cell_obj h1 rfl
  have H1 := Lib.hid h1
  have R1 := Lib.hid r1
  have R3 := Lib.hid r3
  have RU := Lib.hid hu
  have HS := Lib.hid hs
  have HL := Lib.hid hl
  obtain ⟨a1, c1, e1, _, _⟩ := r1.cells.form
  obtain ⟨a2, c2, e2, _, _⟩ := hu.cells.form
  obtain ⟨a3, c3, e3, _, _⟩ := r3.cells.form
  have hlen : (l.take i).length + m.length + (l.drop j).length ≤ 1000000 := by rw [List.length_take, List.length_drop]; omega
  have HLEN1 := Lib.hid hlen
  clear h2 r1 r3 hu hs hl hlen
  obtain ⟨n1, hn1⟩ : ∃ n, (l.take i).length = n := ⟨_, rfl⟩
  obtain ⟨n2, hn2⟩ : ∃ n, m.length = n := ⟨_, rfl⟩
  obtain ⟨n3, hn3⟩ : ∃ n, (l.drop j).length = n := ⟨_, rfl⟩
  rw [hn1] at e1
  rw [hn2] at e2
  rw [hn3] at e3
  clear hn1 hn2 hn3
  subst e1 e2 e3
  have bw : b < w.heap.size := block_lt h1
  have HK1 : Hid (Keep w (w.alloc (.cells #[.slice a1 n1 c1, .slice a2 n2 c2, .slice a3 n3 c3] 31)).drew) := ((Keep.refl w).alloc _).drew
  have cn1 : (w.alloc (.cells #[.slice a1 n1 c1, .slice a2 n2 c2, .slice a3 n3 c3] 31)).drew.cell? ⟨b, 0, none⟩ = some v := cell_obj (HK1.out.obj h1) rfl
  have HG : Hid ((w.alloc (.cells #[.slice a1 n1 c1, .slice a2 n2 c2, .slice a3 n3 c3] 31)).drew.heap[w.heap.size]? = some (.cells #[.slice a1 n1 c1, .slice a2 n2 c2, .slice a3 n3 c3] 31 (0, 0))) := heap_alloc_last w _
  clear h1
  go_enter Try.func39, Try.ntmps39
  go_wp2_with fail
  have HCON := Lib.hid (concat _ _ _ (l.take i) m (l.drop j) _ _ HG.out (R1.out.keep HK1.out).cells (RU.out.keep HK1.out).cells (R3.out.keep HK1.out).cells HLEN1.out)
  go_region_with (go_at_call 52; refine HCON.out.mono ?_; rintro e w4 ⟨v', rfl, o4, k4⟩; obtain ⟨a4, c4, e4, _, _⟩ := (Own.row elR o4).cells.form; obtain ⟨n4, hn4⟩ : ∃ n, (l.take i ++ m ++ l.drop j).length = n := ⟨_, rfl⟩; rw [hn4] at e4; clear hn4; subst e4; have hb4 := (HK1.out.trans k4).obj H1.out; have cn2 : w4.cell? ⟨b, 0, none⟩ = some v := cell_obj hb4 rfl; have fz2 : w4.frozen? ⟨b, 0, none⟩ = false := by simp [World.frozen?, hb4])
  all_goals
    go_end0
    refine ⟨rfl, ⟨⟨_, block_set hb4 0 _, ?_⟩, HS.out, HL.out⟩, (Only.keep (HK1.out.trans k4)).trans (Only.setCell _ _ _ _)⟩
    exact (Own.row elR o4).only (Only.setCell b 0 w4 _) hb4 (by decide)
end Go.Proofs.Ytgocmolebanflaa
