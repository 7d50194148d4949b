/- Proved: what the document's Base, Count, Missing and Same of maps of chunks answer, lists of bools or of ints in memory. Condition: a list has at most 256 bools, or a million ints. -/
import Derived.Test.YtifcibmpeolmdaaDoorMg
namespace Go.Proofs.YtifcibmpeolmdaaDoor
open Go.RowKit

abbrev CelO (w : World) (v : Value) (l : List Bool) : Prop := Cells be w v l
abbrev CelI (w : World) (v : Value) (l : List Nat) : Prop := Cells ie w v l
theorem Cells.bool {w : World} {g o cap : Nat} {l : List Bool} (h : CelO w (.slice (some ⟨g, o, none⟩) l.length cap) l) (j : Nat) (hj : j < l.length) : w.cell? ⟨g, o + j, none⟩ = some (.bool (l.getD j false)) := by
  have := h.cell (k := 1) (fun _ => rfl) j (l.getD j false) (get_of_getD hj) 0 (by omega) (.bool (l.getD j false)) rfl
  simpa using this
theorem Cells.int {w : World} {g o cap : Nat} {l : List Nat} (h : CelI w (.slice (some ⟨g, o, none⟩) l.length cap) l) (j : Nat) (x : Nat) (hx : l[j]? = some x) : w.cell? ⟨g, o + j, none⟩ = some (.int .i64 x) := by
  have := h.cell (k := 1) (fun _ => rfl) j x hx 0 (by omega) (.int .i64 x) rfl
  simpa using this

def QbRel (l : List Bool) (w : World) (iv : Value) (wr : World) : Prop := wr = w ∧ ∃ k : Nat, iv = .int .i64 k ∧ k ≤ l.length ∧ ∀ i, i < k → l.getD i false = true
set_option maxRecDepth 100000 in
theorem qbase (v : Value) (l : List Bool) (w : World) (h : CelO w v l) (hf : l.length ≤ 256) : Calls Tryd.prog 19 #[v] w fun e w' => e = .returned (.int .i64 (baseN l : Nat)) ∧ w' = w := by
  obtain ⟨a, cap, rfl, _, _⟩ := h.form
  have HC := Lib.hid h
  clear h
  obtain ⟨N, hN⟩ : ∃ N, l.length = N := ⟨_, rfl⟩
  have HN := Lib.hid hN
  rw [hN] at hf ⊢
  clear hN
  go_enter Tryd.func19, Tryd.ntmps19
  go_wp2
  go_loopw [3] (fun i wr => QbRel l w i wr) (fun i _ => N - (intOf i).toNat)
  case atStart => exact ⟨rfl, 0, rfl, Nat.zero_le _, fun i hi => by omega⟩
  case round =>
    obtain ⟨rfl, k, rfl, hk, hb⟩ := hrel
    rw [HN.out] at hk
    have HB := Lib.hid hb
    clear hb
    by_cases hlt : k < N
    · obtain ⟨g, o, cap', e, _, _, _⟩ := HC.out.ptr k (by rw [HN.out]; exact hlt)
      simp at e
      obtain ⟨rfl, rfl⟩ := e
      have hc := HC.out.bool k (by rw [HN.out]; exact hlt)
      cases hg : l.getD k false
      · have HE := Lib.hid (base_one HB.out hg)
        rw [hg] at hc
        clear hg
        go_wp2
        go_ret
        rw [HE.out]
        exact ⟨rfl, rfl⟩
      · have HB2 := Lib.hid (show ∀ i, i < k + 1 → l.getD i false = true from fun i hi => by
          by_cases e : i = k
          · rw [e]; exact hg
          · exact HB.out i (by omega))
        rw [hg] at hc
        clear hg
        go_wp2
        go_roundw
        case rel => exact ⟨rfl, k + 1, by go_num, by rw [HN.out]; omega, HB2.out⟩
        case measure => simp [intOf]; omega
    · obtain rfl : k = N := by omega
      have HE := Lib.hid (base_full (l := l) (by rw [HN.out]; exact HB.out))
      rw [HN.out] at HE
      go_wp2
      go_ret
      rw [HE.out]
      exact ⟨rfl, rfl⟩

def QcRel (l : List Bool) (w : World) (cv iv : Value) (wr : World) : Prop := wr = w ∧ ∃ k : Nat, iv = .int .i64 k ∧ k ≤ l.length ∧ cv = .int .i64 (cntN (l.take k) : Nat)
theorem cnt_next (l : List Bool) (k : Nat) (h : k < l.length) : cntN (l.take (k + 1)) = cntN (l.take k) + (l.getD k false).toNat := by
  rw [List.take_add_one, get_of_getD h, cnt_append]
  cases l.getD k false <;> rfl
set_option maxRecDepth 100000 in
theorem qcount (v : Value) (l : List Bool) (w : World) (h : CelO w v l) (hf : l.length ≤ 256) : Calls Tryd.prog 27 #[v] w fun e w' => e = .returned (.int .i64 (cntN l : Nat)) ∧ w' = w := by
  obtain ⟨a, cap, rfl, _, _⟩ := h.form
  have HC := Lib.hid h
  clear h
  obtain ⟨N, hN⟩ : ∃ N, l.length = N := ⟨_, rfl⟩
  have HN := Lib.hid hN
  rw [hN] at hf ⊢
  clear hN
  go_enter Tryd.func27, Tryd.ntmps27
  go_wp2
  go_loopw [3, 4] (fun c i wr => QcRel l w c i wr) (fun _ i _ => N - (intOf i).toNat)
  case atStart => exact ⟨rfl, 0, rfl, Nat.zero_le _, rfl⟩
  case round =>
    obtain ⟨rfl, k, rfl, hk, rfl⟩ := hrel
    rw [HN.out] at hk
    have hcl := cnt_le (l.take k)
    rw [List.length_take] at hcl
    by_cases hlt : k < N
    · obtain ⟨g, o, cap', e, _, _, _⟩ := HC.out.ptr k (by rw [HN.out]; exact hlt)
      simp at e
      obtain ⟨rfl, rfl⟩ := e
      have hc := HC.out.bool k (by rw [HN.out]; exact hlt)
      have HX := Lib.hid (cnt_next l k (by rw [HN.out]; exact hlt))
      have hcb : cntN (l.take k) ≤ 256 := by omega
      clear hcl
      cases hg : l.getD k false
      · rw [hg] at hc HX
        clear hg
        generalize cntN (l.take k) = c at *
        go_wp2
        go_roundw
        case rel => exact ⟨rfl, k + 1, by go_num, by rw [HN.out]; omega, by rw [HX.out]; rfl⟩
        case measure => simp [intOf]; omega
      · rw [hg] at hc HX
        clear hg
        generalize cntN (l.take k) = c at *
        go_wp2
        go_roundw
        case rel => exact ⟨rfl, k + 1, by go_num, by rw [HN.out]; omega, by rw [HX.out]; go_num⟩
        case measure => simp [intOf]; omega
    · obtain rfl : k = N := by omega
      have HE := Lib.hid (List.take_of_length_le (Nat.le_of_eq HN.out))
      generalize hcc : cntN (l.take k) = c at *
      have HCC := Lib.hid hcc
      clear hcc
      go_wp2
      go_ret
      rw [← HE.out, HCC.out]
      exact ⟨rfl, rfl⟩

def QmRel (w : World) (l : List Bool) (a b : Int) (v iv : Value) (wr : World) : Prop :=
  ∃ k : Nat, iv = .int .i64 k ∧ k ≤ l.length ∧ OwnI w.heap.size wr v (misK l a b k) ∧ Keep w wr
end Go.Proofs.YtifcibmpeolmdaaDoor
