/- Proved: what table's aheadOf and Changes answer. Condition: the tables lie in memory, or are none. -/
import Derived.Test.YtgocmolebanflaaW
namespace Go.Proofs.Ytgocmolebanflaa
open Go.RowKit

def ahd : List Rt → List Rt → Int
  | [], _ => 1
  | _ :: _, [] => -1
  | a :: _, b :: _ => cmpP a.to b.to
/-- What makes the one of the other. -/
def chg : List Rt → List Rt → List Ic
  | [], [] => []
  | a :: l, [] => ⟨3, wd a⟩ :: chg l []
  | [], b :: m => ⟨1, b⟩ :: chg [] m
  | a :: l, b :: m => if cmpP a.to b.to < 0 then ⟨3, wd a⟩ :: chg l (b :: m) else if 0 < cmpP a.to b.to then ⟨1, b⟩ :: chg (a :: l) m else if a = b then chg l m else ⟨2, b⟩ :: chg l m
termination_by l m => l.length + m.length
theorem chg_old (a : Rt) (l m : List Rt) (h : ahd (a :: l) m < 0) : chg (a :: l) m = ⟨3, wd a⟩ :: chg l m := by
  cases m with
  | nil => rw [chg]
  | cons b m =>
    simp only [ahd] at h
    rw [chg, if_pos h]
theorem ahd_one (m : List Rt) : ahd [] m = 1 := rfl
theorem chg_new (b : Rt) (l m : List Rt) (h : 0 < ahd l (b :: m)) : chg l (b :: m) = ⟨1, b⟩ :: chg l m := by
  cases l with
  | nil => rw [chg]
  | cons a l =>
    simp only [ahd] at h
    rw [chg, if_neg (by omega), if_pos h]
theorem chg_same (a b : Rt) (l m : List Rt) (h : ahd (a :: l) (b :: m) = 0) : chg (a :: l) (b :: m) = if a = b then chg l m else ⟨2, b⟩ :: chg l m := by
  simp only [ahd] at h
  rw [chg, if_neg (by omega), if_neg (by omega)]
theorem chg_nil : chg [] [] = [] := by rw [chg]

def vlen : Value → Nat
  | .slice _ n _ => n
  | _ => 0

theorem Cells.rt0 {w : World} {g o cap n : Nat} {l : List Rt} {x : Rt} (h : Cells rl w (.slice (some ⟨g, o, none⟩) (x :: l).length cap) (x :: l)) (hn : n = 20) : (loadCellsFrom ⟨g, o, none⟩ 0 n #[]).run Try.prog w = .ok (rc x) w := by
  have := h.rt hn 0 x rfl
  simpa using this
theorem Cells.to {w : World} {g o cap n k : Nat} {l : List Rt} (h : Cells rl w (.slice (some ⟨g, o, none⟩) l.length cap) l) (hn : n = 18) (hk : k = 20) (j : Nat) (x : Rt) (hx : l[j]? = some x) : (loadCellsFrom ⟨g, o + j * k, none⟩ 0 n #[]).run Try.prog w = .ok (pc x.to) w := by
  have := h.load (P := Try.prog) (n := n) rl_len j x hx 0 18 (pc x.to).toList (rl_to x).symm (by omega) hn
  rw [Nat.add_zero, ← hk] at this
  simpa using this
theorem Cells.to0 {w : World} {g o cap n : Nat} {l : List Rt} {x : Rt} (h : Cells rl w (.slice (some ⟨g, o, none⟩) (x :: l).length cap) (x :: l)) (hn : n = 18) : (loadCellsFrom ⟨g, o, none⟩ 0 n #[]).run Try.prog w = .ok (pc x.to) w := by
  have := h.to (k := 20) hn rfl 0 x rfl
  simpa using this

set_option maxRecDepth 100000 in
set_option maxHeartbeats 1000000 in
theorem aheadOf (u v : Value) (l m : List Rt) (w : World) (hu : Cells rl w u l) (hv : Cells rl w v m) : Calls Try.prog 45 #[u, v] w fun e w' => e = .returned (.int .i64 (ahd l m)) ∧ Keep w w' := by
  obtain ⟨n, hn⟩ : ∃ n, n = 20 := ⟨20, rfl⟩
  have hsz : ∀ w, (Go.sizeOf 34).run Try.prog w = .ok n w := fun w => by rw [hn]; exact Try.sizeOf34 w
  have hn0 : ¬ n = 0 := by omega
  have HN := Lib.hid hn
  clear hn
  cases l with
  | nil =>
    obtain ⟨a1, c1, rfl, _, _⟩ := hu.form
    clear hu hv
    simp only [List.length_nil, ahd]
    go_enter Try.func45, Try.ntmps45
    go_wp2
    go_ret
    exact ⟨rfl, Keep.refl _⟩
  | cons a l =>
    obtain ⟨g1, o1, c1, rfl, k1, k2, _⟩ := hu.ptr 0 (by simp)
    have hpos : ¬ ((((a :: l).length : Nat) : Int) == 0) = true := by simp; omega
    have hlt : 0 < (a :: l).length := by simp
    cases m with
    | nil =>
      obtain ⟨a2, c2, rfl, _, _⟩ := hv.form
      clear hu hv
      simp only [List.length_nil, ahd]
      obtain ⟨N1, hN1⟩ : ∃ n, (a :: l).length = n := ⟨_, rfl⟩
      rw [hN1] at hpos ⊢
      clear hN1 hlt k1
      have hz : ((N1 : Int) == 0) = false := by simpa using hpos
      clear hpos
      go_enter Try.func45, Try.ntmps45
      go_wp2
      go_ret
      exact ⟨rfl, Keep.refl _⟩
    | cons b m =>
      obtain ⟨g2, o2, c2, rfl, _, _, _⟩ := hv.ptr 0 (by simp)
      have d1 : ∀ u : KW w, (loadCellsFrom ⟨g1, o1, none⟩ 0 n #[]).run Try.prog u.1 = .ok (rc a) u.1 := fun u => (hu.keep u.2).rt0 HN.out
      have d2 : ∀ u : KW w, (loadCellsFrom ⟨g2, o2, none⟩ 0 n #[]).run Try.prog u.1 = .ok (rc b) u.1 := fun u => (hv.keep u.2).rt0 HN.out
      have HO := Lib.hid (order a b).keep
      have hlt2 : 0 < (b :: m).length := by simp
      clear hu hv
      simp only [ahd]
      obtain ⟨N1, hN1⟩ : ∃ n, (a :: l).length = n := ⟨_, rfl⟩
      obtain ⟨N2, hN2⟩ : ∃ n, (b :: m).length = n := ⟨_, rfl⟩
      rw [hN1] at hlt hpos ⊢
      rw [hN2] at hlt2 ⊢
      clear hN1 hN2 k1
      have hz : ((N1 : Int) == 0) = false := by simpa using hpos
      have hz2 : ((N2 : Int) == 0) = false := by simp; omega
      clear hpos
      generalize cmpP a.to b.to = z at *
      generalize rc a = A at *
      generalize rc b = B at *
      go_enter Try.func45, Try.ntmps45
      go_wp2_with fail
      refine wp_region_keep (Keep.refl _) (by kernel_rfl) (by kernel_rfl) ?_
      repeat (first | go_big_quiet_step (exact HO.out.at _) | quiet_step (exact HO.out.at _))
      refine wpQuiet_nil ?_
      rintro w6 ⟨⟨w7, b7⟩, rfl⟩
      go_wp2
      go_ret
      exact ⟨rfl, b7⟩

theorem Row.inc (w : World) (i : Ic) : Row il 43 (w.alloc (.cells (ic i) 43)) (.slice (some ⟨w.heap.size, 0, none⟩) 1 1) [i] := by
  have hb : (w.alloc (.cells (ic i) 43)).heap[w.heap.size]? = some (.cells (ic i) 43 (0, 0)) := heap_alloc_last w _
  refine ⟨.inr ⟨w.heap.size, 0, 1, rfl, Nat.le_refl _, by simp [maxLen], block_lt hb, fun j u hj => ?_⟩, fun g hg => ?_⟩
  · rw [flat_one] at hj
    exact cell_obj hb (by rw [Nat.zero_add]; simpa [ic] using hj)
  · simp [Value.ownBlock] at hg
    subst hg
    exact ⟨_, _, hb⟩
end Go.Proofs.Ytgocmolebanflaa
