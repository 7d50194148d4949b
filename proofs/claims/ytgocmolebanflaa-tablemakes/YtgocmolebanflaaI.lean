/- Proved: what the library's search by halves answers over routes in order. Condition: the routes are in order. -/
import Derived.Test.YtgocmolebanflaaH
namespace Go.Proofs.Ytgocmolebanflaa
open Go.RowKit

theorem Cells.rt {w : World} {g o cap n : Nat} {l : List Rt} (h : Cells rl w (.slice (some ⟨g, o, none⟩) l.length cap) l) (hn : n = 20) (j : Nat) (x : Rt) (hx : l[j]? = some x) : (loadCellsFrom ⟨g, o + j * n, none⟩ 0 n #[]).run Try.prog w = .ok (rc x) w := by
  have := h.load (P := Try.prog) (n := n) rl_len j x hx 0 20 (rl x) (rl_whole x) (by omega) hn
  rw [Nat.add_zero, ← hn] at this
  exact this
def BsRel (W : World) (K N : Nat) (i j : Value) (wr : World) : Prop := ∃ a b : Nat, i = .int .i64 a ∧ j = .int .i64 b ∧ a ≤ K ∧ K ≤ b ∧ b ≤ N ∧ Keep W wr

set_option maxRecDepth 100000 in
set_option maxHeartbeats 1000000 in
theorem search (v : Value) (l : List Rt) (r : Rt) (hs : Sorted l) (w : World) (h : Cells rl w v l) (hl : l.length ≤ 1000000) :
    Calls Try.prog 51 #[v, .agg (rc r), .func (.func 37) #[] #[]] w fun e w' => e = .returned (.tuple #[.int .i64 (rank l r.to : Nat), .bool (hasP l r.to)]) ∧ Keep w w' := by
  obtain ⟨a, cap, rfl, hc1, hc2⟩ := h.form
  have hA := RAt.new w r
  have hS : Keep w (w.alloc (.cells (rc r) 34)) := (Keep.refl w).alloc _
  have h1 := h.keep hS
  obtain ⟨n, hn⟩ : ∃ n, n = 20 := ⟨20, rfl⟩
  have hsz : ∀ w, (Go.sizeOf 34).run Try.prog w = .ok n w := fun w => by rw [hn]; exact Try.sizeOf34 w
  have hn0 : ¬ n = 0 := by omega
  have H1 := Lib.hid h1
  have HA := Lib.hid hA
  have HS := Lib.hid hS
  have HN := Lib.hid hn
  have hrk := rank_le l r.to
  have HR1 := Lib.hid (lt_rank hs r.ok)
  have HR2 := Lib.hid (get_rank hs r.ok)
  have HR3 := Lib.hid (no_rank hs r.ok)
  clear h1 hA hS hn h
  generalize rc r = R at *
  generalize hasP l r.to = q at *
  generalize rank l r.to = K at *
  go_enter Try.func51, Try.ntmps51
  go_wp2
  go_loopw [9, 10] (fun i j wr => BsRel (w.alloc (.cells R 34)) K l.length i j wr) (fun i j _ => (intOf j).toNat - (intOf i).toNat)
  case atStart => exact ⟨0, l.length, rfl, rfl, Nat.zero_le _, hrk, Nat.le_refl _, Keep.refl _⟩
  case round =>
    obtain ⟨i, j, rfl, rfl, hi, hj, hjl, hk⟩ := hrel
    by_cases hij : i < j
    · obtain ⟨m, hm⟩ : ∃ m : Nat, ((i : Int) + j) / 2 = m := ⟨(i + j) / 2, by omega⟩
      have hmi : i ≤ m ∧ m < j := by omega
      obtain ⟨g, o, cap', he, _, _, _⟩ := H1.out.ptr m (by omega)
      simp at he
      obtain ⟨rfl, rfl⟩ := he
      obtain ⟨x, hx⟩ : ∃ x, l[m]? = some x := ⟨_, List.getElem?_eq_getElem (by omega)⟩
      have d1 : ∀ u : KW wr, (loadCellsFrom ⟨g, o + m * n, none⟩ 0 n #[]).run Try.prog u.1 = .ok (rc x) u.1 := fun u => (H1.out.keep (hk.trans u.2)).rt HN.out m x hx
      have d2 : ∀ u : KW wr, (loadCellsFrom ⟨w.heap.size, 0, none⟩ 0 n #[]).run Try.prog u.1 = .ok (rc r) u.1 := fun u => (HA.out.keep (hk.trans u.2)).whole HN.out
      have hml : m < l.length := by omega
      have HO := Lib.hid (order x r).keep
      have HR := Lib.hid (HR1.out m x hx)
      have HK := Lib.hid hk
      clear hk H1 HA HR1 HR2 HR3
      generalize cmpP x.to r.to = z at *
      generalize rc x = X at *
      go_wp2_with fail
      refine wp_region_keep (Keep.refl _) (by kernel_rfl) (by kernel_rfl) ?_
      repeat (first | go_big_quiet_step (exact HO.out.at _) | quiet_step (exact HO.out.at _))
      refine wpQuiet_nil ?_
      rintro w6 ⟨⟨w7, b7⟩, rfl⟩
      have HK7 := Lib.hid (HK.out.trans b7)
      clear HK b7 d1 d2
      by_cases hz : z < 0
      · have hm2 := HR.out.1 hz
        go_wp2
        go_roundw
        case rel => exact ⟨m + 1, j, by go_num, rfl, by omega, hj, hjl, HK7.out⟩
        case measure => simp [intOf]; omega
      · have hm2 : K ≤ m := Nat.le_of_not_lt fun h => hz (HR.out.2 h)
        go_wp2
        go_roundw
        case rel => exact ⟨i, m, rfl, rfl, hi, by omega, by omega, HK7.out⟩
        case measure => simp [intOf]; omega
    · have hi2 : i = K := by omega
      have hj2 : j = K := by omega
      subst hi2
      subst hj2
      clear hi hj hij
      have HK := Lib.hid hk
      by_cases hm : j < l.length
      · obtain ⟨g, o, cap', he, _, _, _⟩ := H1.out.ptr j hm
        simp at he
        obtain ⟨rfl, rfl⟩ := he
        obtain ⟨x, hx⟩ : ∃ x, l[j]? = some x := ⟨_, List.getElem?_eq_getElem hm⟩
        have d1 : ∀ u : KW wr, (loadCellsFrom ⟨g, o + j * n, none⟩ 0 n #[]).run Try.prog u.1 = .ok (rc x) u.1 := fun u => (H1.out.keep (hk.trans u.2)).rt HN.out _ x hx
        have d2 : ∀ u : KW wr, (loadCellsFrom ⟨w.heap.size, 0, none⟩ 0 n #[]).run Try.prog u.1 = .ok (rc r) u.1 := fun u => (HA.out.keep (hk.trans u.2)).whole HN.out
        have HO := Lib.hid (order x r).keep
        have HR := Lib.hid (HR2.out x hx)
        clear hk H1 HA hx HR1 HR2 HR3
        generalize cmpP x.to r.to = z at *
        generalize rc x = X at *
        go_wp2_with fail
        refine wp_region_keep (Keep.refl _) (by kernel_rfl) (by kernel_rfl) ?_
        repeat (first | go_big_quiet_step (exact HO.out.at _) | quiet_step (exact HO.out.at _))
        refine wpQuiet_nil ?_
        rintro w6 ⟨⟨w7, b7⟩, rfl⟩
        go_wp2
        go_ret2
        refine ⟨?_, HS.out.trans (HK.out.trans b7)⟩
        rw [HR.out]
        rfl
      · have HR := Lib.hid (HR3.out (Nat.le_of_not_lt hm))
        clear hk HR1 HR2 HR3
        go_wp2_with fail
        refine wp_region_keep (Keep.refl _) (by kernel_rfl) (by kernel_rfl) ?_
        repeat (first | go_big_quiet_step (fail) | quiet_step (fail))
        refine wpQuiet_nil ?_
        rintro w6 ⟨⟨w7, b7⟩, rfl⟩
        go_wp2
        go_ret2
        refine ⟨?_, HS.out.trans (HK.out.trans b7)⟩
        rw [HR.out]
        rfl

set_option maxRecDepth 100000 in
/-- place, of a table or of none. -/
theorem place (t : Value) (l : List Rt) (p : Px) (hp : L16 p) (w : World) (h : Tp w t l) : Calls Try.prog 38 #[t, .agg (pc p)] w fun e w' => e = .returned (.tuple #[.int .i64 (rank l p : Nat), .bool (hasP l p)]) ∧ Keep w w' := by
  have hA := (one_at w p hp).1
  have hS : Keep w (w.alloc (.cells (pc p) 25)) := (Keep.refl w).alloc _
  obtain ⟨n, hn⟩ : ∃ n, n = 18 := ⟨18, rfl⟩
  have hsz : ∀ w, (Go.sizeOf 25).run Try.prog w = .ok n w := fun w => by rw [hn]; exact Try.sizeOf25 w
  have hn0 : ¬ n = 0 := by omega
  have d1 : ∀ u : KW (w.alloc (.cells (pc p) 25)), (loadCellsFrom ⟨w.heap.size, 0, none⟩ 0 n #[]).run Try.prog u.1 = .ok (pc p) u.1 := fun u => load_block n (by rw [pc_size p hp, hn]) (u.block hA.block)
  have ht := h.keep hS
  obtain ⟨v, hv, hrow⟩ := rows_of ht
  have HR : Hid (∀ u : KW (w.alloc (.cells (pc p) 25)), Calls Try.prog 43 #[t] u.1 fun e w'' => e = .returned v ∧ ∃ m : KW (w.alloc (.cells (pc p) 25)), w'' = m.1) := fun u => keep_at hrow u
  have HB : Hid (∀ u : KW (w.alloc (.cells (pc p) 25)), Calls Try.prog 51 #[v, .agg (rc ⟨p, 0, 0, hp⟩), .func (.func 37) #[] #[]] u.1 fun e w'' => e = .returned (.tuple #[.int .i64 (rank l p : Nat), .bool (hasP l p)]) ∧ ∃ m : KW (w.alloc (.cells (pc p) 25)), w'' = m.1) := fun u => keep_at (fun w1 k => search v l ⟨p, 0, 0, hp⟩ h.sorted w1 (hv.cells.keep k) (by have := h.few; omega)) u
  have HS := Lib.hid hS
  have HN := Lib.hid hn
  have HBU := Lib.hid (build_to p hp)
  clear hA hS hn ht hv hrow h
  generalize rc ⟨p, 0, 0, hp⟩ = R at *
  generalize rank l p = K at *
  generalize hasP l p = q at *
  go_enter Try.func38, Try.ntmps38
  go_wp2_with fail
  refine wp_region_keep (Keep.refl _) (by kernel_rfl) (by kernel_rfl) ?_
  repeat (first | go_big_quiet_step (exact HR.out _) | quiet_step (exact HR.out _))
  refine quiet_build rfl 34 _ rfl _ rfl _ HBU.out ?_
  go_simp
  repeat (first | go_big_quiet_step (exact HB.out _) | quiet_step (exact HB.out _))
  refine wpQuiet_nil ?_
  rintro ⟨w7, b7⟩
  go_wp2
  go_ret2
  exact ⟨rfl, HS.out.trans b7⟩
end Go.Proofs.Ytgocmolebanflaa
