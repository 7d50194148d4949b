/- Proved: what table's Do, Same and aheadOf answer. Condition: the table lies in memory, or is none. -/
import Derived.Test.YtgocmolebanflaaV
namespace Go.Proofs.Ytgocmolebanflaa
open Go.RowKit

/-- A change lies in block b. -/
def IAt (w : World) (b : Nat) (i : Ic) : Prop := w.heap[b]? = some (.cells (ic i) 43 (0, 0))
theorem IAt.keep {w w' : World} {b : Nat} {i : Ic} (h : IAt w b i) (k : Keep w w') : IAt w' b i := k.obj h
theorem IAt.new (w : World) (i : Ic) : IAt (w.alloc (.cells (ic i) 43)) w.heap.size i := heap_alloc_last w _
theorem IAt.kind {w : World} {b : Nat} {i : Ic} (h : IAt w b i) : w.cell? ⟨b, 0, none⟩ = some (.int .i64 i.kind) := cell_obj h rfl
theorem IAt.whole {w : World} {b n : Nat} {i : Ic} (h : IAt w b i) (hn : n = 21) : (loadCellsFrom ⟨b, 0, none⟩ 0 n #[]).run Try.prog w = .ok (ic i) w := load_block n (by rw [ic_size, hn]) h
theorem IAt.part {w : World} {b n : Nat} {i : Ic} (h : IAt w b i) (L : List Value) (hn : n = L.length) (hL : ∀ (j : Nat) (v : Value), L[j]? = some v → (rl i.route)[j]? = some v) : (loadCellsFrom ⟨b, 1, none⟩ 0 n #[]).run Try.prog w = .ok L.toArray w := by
  refine load_part (P := Try.prog) (o := 1) (n := n) L hn.symm h (fun j v hv => ?_)
  have := hL j v hv
  rw [Nat.add_comm]
  simpa [ic, il] using this
theorem IAt.route {w : World} {b n : Nat} {i : Ic} (h : IAt w b i) (hn : n = 20) : (loadCellsFrom ⟨b, 1, none⟩ 0 n #[]).run Try.prog w = .ok (rc i.route) w := h.part (rl i.route) (by rw [rl_len, hn]) fun _ _ h => h
theorem IAt.to {w : World} {b n : Nat} {i : Ic} (h : IAt w b i) (hn : n = 18) : (loadCellsFrom ⟨b, 1, none⟩ 0 n #[]).run Try.prog w = .ok (pc i.route.to) w := by
  have := h.part (n := n) (pc i.route.to).toList (by rw [pcl _ i.route.ok, hn]) (fun j v hv => by
    rw [rl, List.getElem?_append_left (List.getElem?_eq_some_iff.1 hv).1, hv])
  simpa using this

theorem do_nil (i : Ic) : GivesK Try.prog 16 #[.pointer none, .agg (ic i)] (.int .i64 10) := by
  intro w
  go_enter Try.func16, Try.ntmps16
  go_wp2
  go_ret
  exact ⟨rfl, (Keep.refl w).alloc _⟩

set_option maxRecDepth 100000 in
set_option maxHeartbeats 1000000 in
theorem do_at (b : Nat) (l : List Rt) (i : Ic) (w : World) (h : Tb w b l) : Calls Try.prog 16 #[.pointer (some ⟨b, 0, none⟩), .agg (ic i)] w (TbPost b w (doS l i.kind i.route)) := by
  have hA := IAt.new w i
  have hS : Keep w (w.alloc (.cells (ic i) 43)) := (Keep.refl w).alloc _
  obtain ⟨n2, hn2⟩ : ∃ n, n = 20 := ⟨20, rfl⟩
  have hsz2 : ∀ w, (Go.sizeOf 34).run Try.prog w = .ok n2 w := fun w => by rw [hn2]; exact Try.sizeOf34 w
  have hn0 : ¬ n2 = 0 := by omega
  have hk := hA.kind
  have hr := hA.route hn2
  have HS := Lib.hid hS
  have HT := Lib.hid (h.keep hS)
  clear hA hS hn2 h
  obtain ⟨k, r⟩ := i
  simp only at hk hr ⊢
  have HW1 := Lib.hid (putWhere b l false r 9 _ HT.out)
  have HW2 := Lib.hid (putWhere b l true r 8 _ HT.out)
  have HW3 := Lib.hid (withdraw b l r _ HT.out)
  generalize ic ⟨k, r⟩ = I at *
  generalize rc r = R at *
  unfold doS
  by_cases h1 : k = 1
  · rw [if_pos h1]
    have hk1 : (k == 1) = true := by simpa using h1
    have HE1 : Hid ((if rightR r then (if hasP l r.to = false then putS l r else (l, 9)) else (l, 1)) = if rightR r then (if hasP l r.to = true then (l, 9) else putS l r) else (l, 1)) := by
      show (if rightR r then (if hasP l r.to = false then putS l r else (l, 9)) else (l, 1)) = _
      cases hasP l r.to <;> simp
    rw [HE1.out] at HW1
    clear h1 HW2 HW3
    generalize (if rightR r then (if hasP l r.to = true then (l, 9) else putS l r) else (l, 1)) = X at *
    go_enter Try.func16, Try.ntmps16
    go_wp2_with fail
    refine HW1.out.mono ?_
    rintro e w3 ⟨rfl, t3, o3⟩
    have HE := Lib.hid (show TbPost b w X (.returned (.int .i64 X.2)) w3 from ⟨rfl, t3, (Only.keep HS.out).trans o3⟩)
    clear t3 o3
    go_wp2
    go_ret
    exact HE.out
  · rw [if_neg h1]
    have hk1 : (k == 1) = false := by simpa using h1
    by_cases h2 : k = 2
    · rw [if_pos h2]
      have hk2 : (k == 2) = true := by simpa using h2
      clear h1 h2 HW1 HW3
      generalize (if rightR r then (if hasP l r.to = true then putS l r else (l, 8)) else (l, 1)) = X at *
      go_enter Try.func16, Try.ntmps16
      go_wp2_with fail
      refine HW2.out.mono ?_
      rintro e w3 ⟨rfl, t3, o3⟩
      have HE := Lib.hid (show TbPost b w X (.returned (.int .i64 X.2)) w3 from ⟨rfl, t3, (Only.keep HS.out).trans o3⟩)
      clear t3 o3
      go_wp2
      go_ret
      exact HE.out
    · rw [if_neg h2]
      have hk2 : (k == 2) = false := by simpa using h2
      by_cases h3 : k = 3
      · rw [if_pos h3]
        have hk3 : (k == 3) = true := by simpa using h3
        clear h1 h2 h3 HW1 HW2
        generalize (if rightP r.to ∧ r = wd r then dropS l r.to else (l, 1)) = X at *
        go_enter Try.func16, Try.ntmps16
        go_wp2_with fail
        refine HW3.out.mono ?_
        rintro e w3 ⟨rfl, t3, o3⟩
        have HE := Lib.hid (show TbPost b w X (.returned (.int .i64 X.2)) w3 from ⟨rfl, t3, (Only.keep HS.out).trans o3⟩)
        clear t3 o3
        go_wp2
        go_ret
        exact HE.out
      · rw [if_neg h3]
        have hk3 : (k == 3) = false := by simpa using h3
        clear h1 h2 h3 HW1 HW2 HW3
        go_enter Try.func16, Try.ntmps16
        go_wp2
        go_ret
        exact ⟨rfl, HT.out, Only.keep HS.out⟩

/-! ### Lists compared -/
theorem drop_cons' {α : Type} {l : List α} {i : Nat} {x : α} (h : l[i]? = some x) : l.drop i = x :: l.drop (i + 1) := by
  obtain ⟨h1, h2⟩ := List.getElem?_eq_some_iff.1 h
  rw [List.drop_eq_getElem_cons h1, h2]
def EqRel (W : World) (l m : List Rt) (i : Value) (wr : World) : Prop := ∃ k : Nat, i = .int .i64 k ∧ k ≤ l.length ∧ l.take k = m.take k ∧ Keep W wr

set_option maxRecDepth 100000 in
set_option maxHeartbeats 1000000 in
theorem equal (u v : Value) (l m : List Rt) (w : World) (hu : Cells rl w u l) (hv : Cells rl w v m) (hl : l.length ≤ 1000000) (_hm : m.length ≤ 1000000) : Calls Try.prog 46 #[u, v] w fun e w' => e = .returned (.bool (decide (l = m))) ∧ Keep w w' := by
  obtain ⟨a1, c1, rfl, _, _⟩ := hu.form
  obtain ⟨a2, c2, rfl, _, _⟩ := hv.form
  obtain ⟨n, hn⟩ : ∃ n, n = 20 := ⟨20, rfl⟩
  have hsz : ∀ w, (Go.sizeOf 34).run Try.prog w = .ok n w := fun w => by rw [hn]; exact Try.sizeOf34 w
  have hn0 : ¬ n = 0 := by omega
  have HN := Lib.hid hn
  clear hn
  by_cases hlen : l.length = m.length
  · have hne : ((l.length : Int) != (m.length : Int)) = false := by simp [hlen]
    have HU := Lib.hid hu
    have HV := Lib.hid hv
    have HLE := Lib.hid hlen
    clear hu hv
    obtain ⟨N, hN⟩ : ∃ N, l.length = N := ⟨_, rfl⟩
    obtain ⟨M, hM⟩ : ∃ M, m.length = M := ⟨_, rfl⟩
    have HLN := Lib.hid hN
    have HMN := Lib.hid hM
    rw [hN] at hne hl hlen
    rw [hM] at hne _hm hlen
    rw [hN, hM]
    obtain ⟨D, hD⟩ : ∃ D, decide (l = m) = D := ⟨_, rfl⟩
    rw [hD]
    have HD := Lib.hid hD
    clear hN hM hD
    go_enter Try.func46, Try.ntmps46
    go_wp2
    go_loopw [13] (fun i wr => EqRel w l m i wr) (fun i _ => N - (intOf i).toNat)
    case atStart => exact ⟨0, rfl, Nat.zero_le _, rfl, Keep.refl _⟩
    case round =>
      obtain ⟨k, rfl, hk1, hk2, hk⟩ := hrel
      rw [HLN.out] at hk1
      by_cases hlt : k < N
      · have hltm : k < M := by omega
        obtain ⟨g1, o1, cap1, e1, _, _, _⟩ := HU.out.ptr k (by rw [HLN.out]; exact hlt)
        obtain ⟨g2, o2, cap2, e2, _, _, _⟩ := HV.out.ptr k (by rw [HMN.out]; exact hltm)
        simp at e1 e2
        obtain ⟨rfl, rfl⟩ := e1
        obtain ⟨rfl, rfl⟩ := e2
        obtain ⟨x, hx⟩ : ∃ x, l[k]? = some x := ⟨_, List.getElem?_eq_getElem (by rw [HLN.out]; exact hlt)⟩
        obtain ⟨y, hy⟩ : ∃ y, m[k]? = some y := ⟨_, List.getElem?_eq_getElem (by rw [HMN.out]; exact hltm)⟩
        have d1 : ∀ u : KW wr, (loadCellsFrom ⟨g1, o1 + k * n, none⟩ 0 n #[]).run Try.prog u.1 = .ok (rc x) u.1 := fun u => (HU.out.keep (hk.trans u.2)).rt HN.out k x hx
        have d2 : ∀ u : KW wr, (loadCellsFrom ⟨g2, o2 + k * n, none⟩ 0 n #[]).run Try.prog u.1 = .ok (rc y) u.1 := fun u => (HV.out.keep (hk.trans u.2)).rt HN.out k y hy
        have heq : ∀ w, (Op.equalIn 10000 34 (.agg (rc x)) (.agg (rc y))).run Try.prog w = .ok (decide (x = y)) w := fun w => eq_rc 9995 x y w
        have HX := Lib.hid hx
        have HY := Lib.hid hy
        have HK := Lib.hid hk
        have HTK := Lib.hid hk2
        clear hx hy hk hk2
        by_cases hxy : x = y
        · simp only [decide_eq_true hxy] at heq
          have HXY := Lib.hid hxy
          clear hxy
          generalize rc x = X at *
          generalize rc y = Y at *
          go_wp2_with fail
          refine wp_region_keep (Keep.refl _) (by kernel_rfl) (by kernel_rfl) ?_
          repeat (first | go_big_quiet_step (fail) | quiet_step (fail))
          refine wpQuiet_nil ?_
          rintro w6 ⟨⟨w7, b7⟩, rfl⟩
          have HK7 := Lib.hid (HK.out.trans b7)
          clear HK b7 d1 d2 heq
          go_wp2
          go_roundw
          case rel => exact ⟨k + 1, by go_num, by rw [HLN.out]; omega, by rw [List.take_add_one, List.take_add_one, HTK.out, HX.out, HY.out, HXY.out], HK7.out⟩
          case measure => simp [intOf]; omega
        · simp only [decide_eq_false hxy] at heq
          have HXY := Lib.hid hxy
          clear hxy
          generalize rc x = X at *
          generalize rc y = Y at *
          go_wp2_with fail
          refine wp_region_keep (Keep.refl _) (by kernel_rfl) (by kernel_rfl) ?_
          repeat (first | go_big_quiet_step (fail) | quiet_step (fail))
          refine wpQuiet_nil ?_
          rintro w6 ⟨⟨w7, b7⟩, rfl⟩
          have HK7 := Lib.hid (HK.out.trans b7)
          clear HK b7 d1 d2 heq
          go_wp2
          go_ret
          refine ⟨?_, HK7.out⟩
          rw [← HD.out, decide_eq_false (fun e => HXY.out (by have h1 := HX.out; rw [e, HY.out] at h1; simpa using h1.symm))]
          rfl
      · have hlm : l = m := by
          rw [List.take_of_length_le (by rw [HLN.out]; omega), List.take_of_length_le (by rw [HMN.out]; omega)] at hk2
          exact hk2
        have hDt : D = true := by rw [← HD.out]; exact decide_eq_true hlm
        have HDT := Lib.hid hDt
        have HK := Lib.hid hk
        clear hlm hk2 hDt hk
        go_wp2
        go_ret
        refine ⟨?_, HK.out⟩
        rw [HDT.out]
        rfl
  · have hne : ((l.length : Int) != (m.length : Int)) = true := by simp; omega
    obtain ⟨N, hN⟩ : ∃ N, l.length = N := ⟨_, rfl⟩
    obtain ⟨M, hM⟩ : ∃ M, m.length = M := ⟨_, rfl⟩
    rw [decide_eq_false (fun e => hlen (by rw [e]))]
    rw [hN, hM] at hne ⊢
    clear hu hv hlen hN hM hl _hm
    go_enter Try.func46, Try.ntmps46
    go_wp2
    go_ret
    exact ⟨rfl, Keep.refl _⟩

set_option maxRecDepth 100000 in
theorem same (s t : Value) (l m : List Rt) (w : World) (h1 : Tp w s l) (h2 : Tp w t m) : Calls Try.prog 32 #[s, t] w fun e w' => e = .returned (.bool (decide (l = m))) ∧ Keep w w' := by
  obtain ⟨u, hu, cu⟩ := rows_of h1
  obtain ⟨v, hv, cv⟩ := rows_of h2
  have HU := Lib.hid hu
  have HV := Lib.hid hv
  have CU := Lib.hid cu
  have CV := Lib.hid cv
  have f1 := h1.few
  have f2 := h2.few
  clear h1 h2 hu hv cu cv
  have HEQ := Lib.hid (fun w h k => equal u v l m w h k (by omega) (by omega))
  generalize decide (l = m) = D at *
  go_enter Try.func32, Try.ntmps32
  go_wp2_with fail
  refine (CU.out w (Keep.refl _)).mono ?_
  rintro e w1 ⟨rfl, b1⟩
  go_wp2_with fail
  refine (CV.out w1 b1).mono ?_
  rintro e w2 ⟨rfl, b2⟩
  have HE := Lib.hid (HEQ.out w2 (HU.out.cells.keep (b1.trans b2)) (HV.out.cells.keep (b1.trans b2)))
  have HK := Lib.hid (b1.trans b2)
  clear b1 b2 HEQ
  go_wp2_with fail
  refine HE.out.mono ?_
  rintro e w3 ⟨rfl, b3⟩
  go_wp2
  go_ret
  exact ⟨rfl, HK.out.trans b3⟩
end Go.Proofs.Ytgocmolebanflaa
