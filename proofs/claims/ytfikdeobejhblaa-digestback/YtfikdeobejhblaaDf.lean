/- Proved: what digest's Part, others and Replace answer; two lists of routes joined. Condition: lists are short enough for memory; the table lies in memory, or is none. -/
import Derived.Test.YtfikdeobejhblaaDe
import Derived.Test.YtfikdeobejhblaaPh
namespace Go.Proofs.Ytfikdeobejhblaa
open Go.RowKit

set_option maxRecDepth 100000 in
theorem concat2 (v1 v2 : Value) (l1 l2 : List Rt) (g : Nat) (w : World) (hg : w.heap[g]? = some (.cells #[v1, v2] 22 (0, 0))) (h1 : Cells rl w v1 l1) (h2 : Cells rl w v2 l2) (hl : l1.length + l2.length ≤ 1000000) :
    Calls Try.prog 46 #[.slice (some ⟨g, 0, none⟩) 2 2] w fun e w' => ∃ v', e = .returned v' ∧ Own 37 20 rl w.heap.size w' v' (l1 ++ l2) ∧ Keep w w' := by
  obtain ⟨a1, c1, rfl, _, _⟩ := h1.form
  obtain ⟨a2, c2, rfl, _, _⟩ := h2.form
  have e1 : w.cell? ⟨g, 0, none⟩ = some (.slice a1 l1.length c1) := cell_obj hg rfl
  have e2 : w.cell? ⟨g, 1, none⟩ = some (.slice a2 l2.length c2) := cell_obj hg rfl
  have HG := Lib.hid hg
  have H1 := Lib.hid h1
  have H2 := Lib.hid h2
  have HGr := Lib.hid (grow (l1.length + l2.length) (by omega) w)
  clear hg h1 h2
  have n1 : ¬ ((l1.length : Int) < 0) := by omega
  have n2 : ¬ ((l1.length : Int) + l2.length < 0) := by omega
  go_enter Try.func46, Try.ntmps46
  go_wp2
  refine wp_loop_rounds 3 ?_
  repeat any_goals (rw [rounds_succ]; go_wp2_with fail)
  refine (HGr.out).mono ?_
  rintro e w1 ⟨v1, rfl, o1, k1⟩
  have hg1 := k1.obj HG.out
  have e1 : w1.cell? ⟨g, 0, none⟩ = some (.slice a1 l1.length c1) := cell_obj hg1 rfl
  have HC1 := Lib.hid (H1.out.keep k1)
  have HO1 := Lib.hid o1
  have HK1 := Lib.hid k1
  have hsz1 : w.heap.size ≤ w1.heap.size := k1.size
  clear e2 o1 k1 hg1 n1 n2
  go_wp2
  refine wp_loop_rounds 3 ?_
  rw [rounds_succ]
  go_wp2_with (at_builtin; refine wp_app elR rfl _ _ rfl w.heap.size _ _ [] l1 rfl rfl HO1.out HC1.out ?q1 ?q2 ?q3 ?_)
  case q1 => (try simp); omega
  case q2 => (try simp); omega
  case q3 => exact hsz1
  intro v2 w2 o2 g2
  have k2 : Keep w w2 := HO1.out.grown HK1.out (Nat.le_refl _) g2
  have hg2 := k2.obj HG.out
  have e2 : w2.cell? ⟨g, 1, none⟩ = some (.slice a2 l2.length c2) := cell_obj hg2 rfl
  have HC2 := Lib.hid (H2.out.keep k2)
  have HO2 := Lib.hid o2
  have HK2 := Lib.hid k2
  have hsz2 : w.heap.size ≤ w2.heap.size := k2.size
  clear e1 hsz1 HC1 HO1 HK1 o2 g2 k2 hg2
  go_wp2
  rw [rounds_succ]
  go_wp2_with (at_builtin; refine wp_app elR rfl _ _ rfl w.heap.size _ _ l1 l2 rfl rfl HO2.out HC2.out ?r1 ?r2 ?r3 ?_)
  case r1 => (try simp); omega
  case r2 => (try simp); omega
  case r3 => exact hsz2
  intro v3 w3 o3 g3
  have HO3 := Lib.hid o3
  have HK3 := Lib.hid (show Keep w w3 from HO2.out.grown HK2.out (Nat.le_refl _) g3)
  clear e2 hsz2 HC2 HO2 HK2 o3 g3
  go_wp2
  rw [rounds_succ]
  go_wp2
  go_ret
  exact ⟨_, rfl, by simpa using HO3.out, HK3.out⟩

/-! ### Which routes -/
def BAt (w : World) (b : Nat) (k : Int) : Prop := w.heap[b]? = some (.cells #[.int .i64 k] 3 (0, 0))
theorem BAt.cell {w : World} {b : Nat} {k : Int} (h : BAt w b k) : w.cell? ⟨b, 0, none⟩ = some (.int .i64 k) := cell_obj h rfl
theorem BAt.keep {w w' : World} {b : Nat} {k : Int} (h : BAt w b k) (q : Keep w w') : BAt w' b k := q.obj h

set_option maxRecDepth 100000 in
theorem part1 (w : World) (b : Nat) (k : Int) (r : Rt) (h : BAt w b k) : Calls Try.prog 58 #[.agg (rc r), .pointer (some ⟨b, 0, none⟩)] w fun e w' => e = .returned (.bool (!isB k r)) ∧ Keep w w' := by
  have hA := RAt.new w r
  have hS : Keep w (w.alloc (.cells (rc r) 37)) := (Keep.refl w).alloc _
  obtain ⟨n, hn⟩ : ∃ n, n = 18 := ⟨18, rfl⟩
  have hsz : ∀ w, (Go.sizeOf 34).run Try.prog w = .ok n w := fun w => by rw [hn]; exact Try.sizeOf34 w
  have hn0 : ¬ n = 0 := by omega
  have d1 : ∀ u : KW (w.alloc (.cells (rc r) 37)), (loadCellsFrom ⟨w.heap.size, 0, none⟩ 0 n #[]).run Try.prog u.1 = .ok (pc r.to) u.1 := fun u => (hA.keep u.2).to hn
  have d2 : ∀ u : KW (w.alloc (.cells (rc r) 37)), u.1.cell? ⟨b, 0, none⟩ = some (.int .i64 k) := fun u => ((h.keep hS).keep u.2).cell
  have HB := Lib.hid (dbucket r.to r.ok).keep
  have HS := Lib.hid hS
  have HE := Lib.hid (show (((bkt r.to : Nat) : Int) != k) = !isB k r by
    unfold isB
    by_cases h : ((bkt r.to : Nat) : Int) = k <;> simp [h])
  clear hA hS hn h
  generalize rc r = R at *
  generalize bkt r.to = c at *
  go_enter Try.func58, Try.ntmps58
  go_wp2
  refine wp_region_keep (Keep.refl _) (by kernel_rfl) (by kernel_rfl) ?_
  repeat (first | go_big_quiet_step (exact HB.out.at _) | quiet_step (exact HB.out.at _))
  refine wpQuiet_nil ?_
  rintro w6 ⟨⟨w7, b7⟩, hw6⟩
  obtain rfl : w7 = w6 := hw6.symm
  have HK := Lib.hid (HS.out.trans b7)
  clear hw6 b7 d1 d2
  go_wp2
  go_ret
  exact ⟨by rw [← HE.out]; rfl, HK.out⟩
set_option maxRecDepth 100000 in
theorem oth1 (w : World) (b : Nat) (k : Int) (r : Rt) (h : BAt w b k) : Calls Try.prog 78 #[.agg (rc r), .pointer (some ⟨b, 0, none⟩)] w fun e w' => e = .returned (.bool (isB k r)) ∧ Keep w w' := by
  have hA := RAt.new w r
  have hS : Keep w (w.alloc (.cells (rc r) 37)) := (Keep.refl w).alloc _
  obtain ⟨n, hn⟩ : ∃ n, n = 18 := ⟨18, rfl⟩
  have hsz : ∀ w, (Go.sizeOf 34).run Try.prog w = .ok n w := fun w => by rw [hn]; exact Try.sizeOf34 w
  have hn0 : ¬ n = 0 := by omega
  have d1 : ∀ u : KW (w.alloc (.cells (rc r) 37)), (loadCellsFrom ⟨w.heap.size, 0, none⟩ 0 n #[]).run Try.prog u.1 = .ok (pc r.to) u.1 := fun u => (hA.keep u.2).to hn
  have d2 : ∀ u : KW (w.alloc (.cells (rc r) 37)), u.1.cell? ⟨b, 0, none⟩ = some (.int .i64 k) := fun u => ((h.keep hS).keep u.2).cell
  have HB := Lib.hid (dbucket r.to r.ok).keep
  have HS := Lib.hid hS
  have HE := Lib.hid (show (((bkt r.to : Nat) : Int) == k) = isB k r by
    unfold isB
    by_cases h : ((bkt r.to : Nat) : Int) = k <;> simp [h])
  clear hA hS hn h
  generalize rc r = R at *
  generalize bkt r.to = c at *
  go_enter Try.func78, Try.ntmps78
  go_wp2
  refine wp_region_keep (Keep.refl _) (by kernel_rfl) (by kernel_rfl) ?_
  repeat (first | go_big_quiet_step (exact HB.out.at _) | quiet_step (exact HB.out.at _))
  refine wpQuiet_nil ?_
  rintro w6 ⟨⟨w7, b7⟩, hw6⟩
  obtain rfl : w7 = w6 := hw6.symm
  have HK := Lib.hid (HS.out.trans b7)
  clear hw6 b7 d1 d2
  go_wp2
  go_ret
  exact ⟨by rw [← HE.out]; rfl, HK.out⟩
theorem pr_part (b : Nat) (k : Int) : Pr 58 (.pointer (some ⟨b, 0, none⟩)) (fun r => !isB k r) (fun w => BAt w b k) where
  enters := fun args w => by go_simp
  call := fun w r h => part1 w b k r h
  keep := fun _ _ h q => h.keep q
theorem pr_oth (b : Nat) (k : Int) : Pr 78 (.pointer (some ⟨b, 0, none⟩)) (isB k) (fun w => BAt w b k) where
  enters := fun args w => by go_simp
  call := fun w r h => oth1 w b k r h
  keep := fun _ _ h q => h.keep q
def RowPost (w : World) (l : List Rt) (e : Ending) (w' : World) : Prop := ∃ v', e = .returned v' ∧ Row rl 37 w' v' l ∧ Keep w w'
set_option maxRecDepth 100000 in
theorem dpart (t : Value) (l : List Rt) (k : Int) (w : World) (h : Tp w t l) : Calls Try.prog 23 #[t, .int .i64 k] w (RowPost w (partB l k)) := by
  have hS : Keep w (w.alloc (.cells #[.int .i64 k] 3)) := (Keep.refl w).alloc _
  have hB : BAt (w.alloc (.cells #[.int .i64 k] 3)) w.heap.size k := heap_alloc_last w _
  have hf := h.few
  have HA := Lib.hid (all t l _ (h.keep hS))
  have HS := Lib.hid hS
  have HB := Lib.hid hB
  have HF := Lib.hid (show (l.filter fun r => !(fun r => !isB k r) r) = partB l k by simp [partB])
  have hsz : (w.alloc (.cells #[.int .i64 k] 3)).heap.size = w.heap.size + 1 := by simp
  have HZ := Lib.hid hsz
  clear hS hB h hsz
  go_enter Try.func23, Try.ntmps23
  go_wp2_with fail
  refine HA.out.mono ?_
  rintro e w2 ⟨v2, rfl, o2, b2⟩
  have HD := Lib.hid (deleteFunc (pr_part w.heap.size k) v2 l _ _ w2 o2 (by omega) b2 (Nat.le_refl _) (HB.out.keep b2) (fun g wa wb hg hb ho => ho.obj hb (by have := HZ.out; omega)))
  clear o2 b2 HA
  go_wp2_with fail
  refine HD.out.mono ?_
  rintro e w3 ⟨v3, rfl, r3, b3⟩
  rw [HF.out] at r3
  have HR := Lib.hid r3
  have HK := Lib.hid (HS.out.trans b3)
  clear r3 b3 HD
  go_wp2
  go_ret
  exact ⟨_, rfl, HR.out, HK.out⟩
set_option maxRecDepth 100000 in
theorem dothers (t : Value) (l : List Rt) (k : Int) (w : World) (h : Tp w t l) : Calls Try.prog 47 #[t, .int .i64 k] w (RowPost w (othB l k)) := by
  have hS : Keep w (w.alloc (.cells #[.int .i64 k] 3)) := (Keep.refl w).alloc _
  have hB : BAt (w.alloc (.cells #[.int .i64 k] 3)) w.heap.size k := heap_alloc_last w _
  have hf := h.few
  have HA := Lib.hid (all t l _ (h.keep hS))
  have HS := Lib.hid hS
  have HB := Lib.hid hB
  have HF := Lib.hid (show (l.filter fun r => !isB k r) = othB l k from rfl)
  have hsz : (w.alloc (.cells #[.int .i64 k] 3)).heap.size = w.heap.size + 1 := by simp
  have HZ := Lib.hid hsz
  clear hS hB h hsz
  go_enter Try.func47, Try.ntmps47
  go_wp2_with fail
  refine HA.out.mono ?_
  rintro e w2 ⟨v2, rfl, o2, b2⟩
  have HD := Lib.hid (deleteFunc (pr_oth w.heap.size k) v2 l _ _ w2 o2 (by omega) b2 (Nat.le_refl _) (HB.out.keep b2) (fun g wa wb hg hb ho => ho.obj hb (by have := HZ.out; omega)))
  clear o2 b2 HA
  go_wp2_with fail
  refine HD.out.mono ?_
  rintro e w3 ⟨v3, rfl, r3, b3⟩
  rw [HF.out] at r3
  have HR := Lib.hid r3
  have HK := Lib.hid (HS.out.trans b3)
  clear r3 b3 HD
  go_wp2
  go_ret
  exact ⟨_, rfl, HR.out, HK.out⟩

def RpPost (w : World) (l : List Rt) (k : Int) (m : List Rt) (e : Ending) (w' : World) : Prop :=
  ∃ p, e = .returned (.tuple #[p, .int .i64 (replE newE l k m)]) ∧ Keep w w' ∧ ((replE newE l k m ≠ 0 ∧ p = .pointer none) ∨ (replE newE l k m = 0 ∧ ∃ b l', p = .pointer (some ⟨b, 0, none⟩) ∧ w.heap.size ≤ b ∧ l'.Perm (replL l k m) ∧ Tb w' b l'))
theorem drepl_nil (k : Int) (v : Value) : GivesK Try.prog 13 #[.pointer none, .int .i64 k, v] (.tuple #[.pointer none, .int .i64 10]) := by
  intro w
  go_enter Try.func13, Try.ntmps13
  go_wp2
  go_ret2
  exact ⟨rfl, Keep.refl w⟩
def RbRel (W : World) (k : Int) (m : List Rt) (i : Value) (wr : World) : Prop := ∃ j : Nat, i = .int .i64 j ∧ j ≤ m.length ∧ (∀ r ∈ m.take j, (bkt r.to : Int) = k) ∧ Keep W wr
set_option maxRecDepth 100000 in
set_option maxHeartbeats 1000000 in
theorem drepl (b : Nat) (l : List Rt) (k : Int) (v : Value) (m : List Rt) (w : World) (h : Tb w b l) (hm : Cells rl w v m) (hl : m.length ≤ 100000) : Calls Try.prog 13 #[.pointer (some ⟨b, 0, none⟩), .int .i64 k, v] w (RpPost w l k m) := by
  by_cases h1 : k < 0
  · have HE := Lib.hid (show replE newE l k m = 2 by unfold replE; rw [if_pos (.inl h1)])
    clear h hm hl
    go_enter Try.func13, Try.ntmps13
    go_wp2
    go_ret2
    exact ⟨.pointer none, by rw [HE.out]; rfl, Keep.refl w, .inl ⟨by rw [HE.out]; decide, rfl⟩⟩
  · by_cases h2 : 17 ≤ k
    · have HE := Lib.hid (show replE newE l k m = 2 by unfold replE; rw [if_pos (.inr h2)])
      clear h hm hl
      go_enter Try.func13, Try.ntmps13
      go_wp2
      go_ret2
      exact ⟨.pointer none, by rw [HE.out]; rfl, Keep.refl w, .inl ⟨by rw [HE.out]; decide, rfl⟩⟩
    · have HE := Lib.hid (show replE newE l k m = if ∀ r ∈ m, (bkt r.to : Int) = k then newE (replL l k m) else 1 by unfold replE; rw [if_neg (by omega)])
      obtain ⟨a, cap, rfl, hc1, hc2⟩ := hm.form
      obtain ⟨hz, hi⟩ := zero_of_info info34b
      obtain ⟨n, hn⟩ : ∃ n, n = 20 := ⟨20, rfl⟩
      have hsz : ∀ w, (Go.sizeOf 37).run Try.prog w = .ok n w := fun w => by rw [hn]; exact Try.sizeOf37 w
      have hn0 : ¬ n = 0 := by omega
      obtain ⟨n2, hn2⟩ : ∃ n, n = 18 := ⟨18, rfl⟩
      have hsz2 : ∀ w, (Go.sizeOf 34).run Try.prog w = .ok n2 w := fun w => by rw [hn2]; exact Try.sizeOf34 w
      have hn20 : ¬ n2 = 0 := by omega
      have hzs : (rc zeroR).size = n := by rw [hn]; exact rc_size _
      have HN := Lib.hid hn
      have HN2 := Lib.hid hn2
      have H := Lib.hid hm
      have HT := Lib.hid h
      have hf := h.few
      obtain ⟨L, hL⟩ : ∃ n, m.length = n := ⟨_, rfl⟩
      have HL := Lib.hid hL
      rw [hL] at H hc1 hl ⊢
      clear h hm hn hn2 hi hL
      go_enter Try.func13, Try.ntmps13
      go_wp2
      go_loopw [20] (fun i wr => RbRel w k m i wr) (fun i _ => L - (intOf i).toNat)
      case atStart => exact ⟨0, rfl, Nat.zero_le _, by simp, Keep.refl _⟩
      case round =>
        obtain ⟨j, rfl, hjL, hr, hk⟩ := hrel
        rw [HL.out] at hjL
        by_cases hlt : j < L
        · obtain ⟨g, o, cap', e, _, _, _⟩ := (show Cells rl w (.slice a m.length cap) m from by rw [HL.out]; exact H.out).ptr j (by rw [HL.out]; exact hlt)
          rw [HL.out] at e
          simp at e
          obtain ⟨rfl, rfl⟩ := e
          obtain ⟨x, hx⟩ : ∃ x, m[j]? = some x := ⟨_, List.getElem?_eq_getElem (by rw [HL.out]; exact hlt)⟩
          have hcl : Cells rl wr (.slice (some ⟨g, o, none⟩) m.length cap) m := by rw [HL.out]; exact H.out.keep hk
          have d1 := hcl.rt HN.out j x hx
          have hA := RAt.new wr zeroR
          have hst := hA.store x
          have hl3 := (hA.put x).to HN2.out
          have hzx : (rc x).size = n := by rw [HN.out]; exact rc_size _
          have HBK := Lib.hid (dbucket x.to x.ok).keep
          have HK3 := Lib.hid (show Keep w ((wr.alloc (.cells (rc zeroR) 37)).setRow wr.heap.size (rc x)) from (hk.alloc _).setRow _ _ hk.size)
          have HX := Lib.hid hx
          have HR := Lib.hid hr
          clear hcl hA hx hr hk
          by_cases hbx : (bkt x.to : Int) = k
          · have HBX := Lib.hid hbx
            have hne : (((bkt x.to : Nat) : Int) != k) = false := by simp [hbx]
            clear hbx
            obtain ⟨c, hc⟩ : ∃ c, bkt x.to = c := ⟨_, rfl⟩
            rw [hc] at HBK hne
            clear hc
            generalize rc x = X at *
            generalize (wr.alloc (.cells (rc zeroR) 37)).setRow wr.heap.size X = w3 at *
            go_wp2_with fail
            refine (HBK.out _).mono ?_
            rintro e w4 ⟨rfl, b4⟩
            go_wp2
            go_roundw
            case rel => exact ⟨j + 1, by go_num, by rw [HL.out]; omega, fun r hr => by
              rw [List.take_add_one, HX.out] at hr
              rcases List.mem_append.1 hr with h | h
              · exact HR.out r h
              · simp at h; rw [h]; exact HBX.out, HK3.out.trans b4⟩
            case measure => simp [intOf]; omega
          · have HEE := Lib.hid (show replE newE l k m = 1 by rw [HE.out, if_neg (fun h => hbx (h x (List.mem_of_getElem? HX.out)))])
            have hne : (((bkt x.to : Nat) : Int) != k) = true := by simp [hbx]
            clear hbx
            obtain ⟨c, hc⟩ : ∃ c, bkt x.to = c := ⟨_, rfl⟩
            rw [hc] at HBK hne
            clear hc
            generalize rc x = X at *
            generalize (wr.alloc (.cells (rc zeroR) 37)).setRow wr.heap.size X = w3 at *
            go_wp2_with fail
            refine (HBK.out _).mono ?_
            rintro e w4 ⟨rfl, b4⟩
            go_wp2
            go_ret2
            exact ⟨.pointer none, by rw [HEE.out]; rfl, HK3.out.trans b4, .inl ⟨by rw [HEE.out]; decide, rfl⟩⟩
        · have hall : ∀ r ∈ m, (bkt r.to : Int) = k := fun r hm => hr r (by rw [List.take_of_length_le (by rw [HL.out]; omega)]; exact hm)
          have HEE := Lib.hid (show replE newE l k m = newE (replL l k m) by rw [HE.out, if_pos hall])
          have HO := Lib.hid (dothers (.pointer (some ⟨b, 0, none⟩)) l k wr (.inr ⟨b, rfl, HT.out.keep hk⟩))
          have HK := Lib.hid hk
          have hol : (othB l k).length ≤ l.length := List.length_filter_le _ _
          have HC := Lib.hid (H.out.keep hk)
          clear hr hall hk hz hzs HE
          go_wp2_with fail
          refine HO.out.mono ?_
          rintro e w1 ⟨v1, rfl, r1, b1⟩
          obtain ⟨a1, c1, e1, _, _⟩ := r1.cells.form
          subst e1
          have hk4 : Keep w1 (w1.alloc (.cells #[.slice a1 (othB l k).length c1, .slice a L cap] 22)) := (Keep.refl w1).alloc _
          have HCON := Lib.hid (concat2 _ _ (othB l k) m w1.heap.size (w1.alloc (.cells #[.slice a1 (othB l k).length c1, .slice a L cap] 22)) (heap_alloc_last w1 _) (r1.cells.keep hk4) ((HC.out.keep b1).keep hk4) (by rw [HL.out]; omega))
          have HK4 := Lib.hid (HK.out.trans (b1.trans hk4))
          have hol2 : (othB l k).length ≤ 300 := by omega
          have HLL := Lib.hid (show (othB l k ++ m).length ≤ 1000000 by rw [List.length_append, HL.out]; omega)
          clear r1 b1 hk4 HO HC HT
          generalize (othB l k).length = O at *
          go_wp2_with fail
          refine HCON.out.mono ?_
          rintro e w5 ⟨v5, rfl, o5, k5⟩
          have HN5 := Lib.hid (new v5 (othB l k ++ m) w5 (o5.row elR).cells HLL.out)
          have HK5 := Lib.hid (HK4.out.trans k5)
          clear o5 k5 HCON
          go_wp2_with fail
          refine HN5.out.mono ?_
          rintro e w6 ⟨p6, rfl, k6, hc6⟩
          have HFI := Lib.hid (show RpPost w l k m (.returned (.tuple #[p6, .int .i64 (newE (othB l k ++ m))])) w6 from ⟨p6, by rw [HEE.out]; rfl, HK5.out.trans k6, by
            rw [HEE.out]
            rcases hc6 with h | ⟨h0, b', l', h1, h2, h3, h4⟩
            · exact .inl h
            · exact .inr ⟨h0, b', l', h1, Nat.le_trans HK5.out.size h2, h3, h4⟩⟩)
          clear hc6 k6 HN5
          generalize newE (othB l k ++ m) = E at *
          go_wp2
          go_ret2
          exact HFI.out
end Go.Proofs.Ytfikdeobejhblaa
