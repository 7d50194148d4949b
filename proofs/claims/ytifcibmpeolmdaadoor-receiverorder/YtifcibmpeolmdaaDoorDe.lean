/- Proved: what the document's Take and Data answer, and what they do to memory. Condition: the receiver lies in memory, its counts are below 2^63 - 1; the frame's numbers are ints. -/
import Derived.Test.YtifcibmpeolmdaaDoorDd
import Derived.Test.YtifcibmpeolmdaaDoorPf
namespace Go.Proofs.YtifcibmpeolmdaaDoor
open Go.RowKit

section
variable {g bi bc bd : Nat} {r : Rv} {w : World}
set_option maxRecDepth 100000 in
set_option maxHeartbeats 1000000 in
theorem qtake_at (f : Fr) (hs : SqF f) (hd : r.d (r.wrong f : Nat) < 9223372036854775807) (h : R w g bi bc bd r) : Calls Tryd.prog 15 #[.pointer (some ⟨g, 0, none⟩), .agg (fc f)] w fun e w' =>
    e = .returned (.int .i64 (r.wrong f : Nat)) ∧ R w' g bi bc bd (r.take f) ∧ Turn [g, bi, bc, bd] w w' := by
  obtain ⟨n, hn⟩ : ∃ n, n = 6 := ⟨6, rfl⟩
  have hsz : ∀ w, (Go.sizeOf 32).run Tryd.prog w = .ok n w := fun w => by rw [hn]; exact Tryd.sizeOf32 w
  have hn0 : ¬ n = 0 := by omega
  have k1 : Keep w (w.alloc (.cells (fc f) 32)) := (Keep.refl w).alloc _
  have hA := FAt.new w f
  have hl := hA.whole hn
  have hS := h.keep k1
  have HV := Lib.hid (qwrong_at f hs hS)
  have HK := Lib.hid (fun w1 (k : Keep (w.alloc (.cells (fc f) 32)) w1) => k1.trans k)
  have HS := Lib.hid (fun w1 (k : Keep (w.alloc (.cells (fc f) 32)) w1) => hS.keep k)
  have hneB : w.heap.size ≠ bi := by have := h.low bi (by simp); omega
  by_cases hw : r.wrong f = 0
  · obtain ⟨_, _, _, _, _, h0, hi, hdat, _⟩ := wrong_ok hw
    obtain ⟨k, hk⟩ := Int.eq_ofNat_of_zero_le h0
    have hkn : f.idx.toNat = k := by omega
    have HT := Lib.hid (take_yes hw)
    rw [hkn] at HT hi
    have HF := Lib.hid (fun w1 (k' : Keep (w.alloc (.cells (fc f) 32)) w1) => hA.keep k')
    have HI := Lib.hid (And.intro hi hdat)
    have HKI := Lib.hid hk
    rw [hw] at HV ⊢
    clear hS h k1 hA hn hs hd hw hdat h0 hk hkn
    generalize fc f = C at *
    go_enter Tryd.func15, Tryd.ntmps15
    go_wp2_with fail
    refine HV.out.mono ?_
    rintro e w1 ⟨rfl, q1⟩
    have HS1 := Lib.hid (HS.out w1 q1)
    have HK1 := Lib.hid (HK.out w1 q1)
    have HF1 := Lib.hid (HF.out w1 q1)
    clear HV HS HK HF q1 hl
    have c2 := HS1.out.i
    have c3 : w1.cell? ⟨w.heap.size, 3, none⟩ = some (.int .i64 (k : Nat)) := by rw [← HKI.out]; exact HF1.out.idx
    have ci := HS1.out.there k HI.out.1
    have fi := HS1.out.freei k
    have T2 : Turn [bi] w1 (w1.setCell ⟨bi, k, none⟩ (.bool true)).drew := (Turn.setCell _ bi k _ (by simp)).drew
    have d2 := T2.obj HS1.out.block (by simp; exact HS1.out.ne1)
    have d3 := T2.obj HS1.out.txt (by simp; exact Ne.symm HS1.out.ne4)
    have d4 : FAt (w1.setCell ⟨bi, k, none⟩ (.bool true)).drew w.heap.size f := T2.obj HF1.out (by simp; exact hneB)
    have g2 : (w1.setCell ⟨bi, k, none⟩ (.bool true)).drew.cell? ⟨g, 3, none⟩ = some (.slice (some ⟨bc, 0, none⟩) r.c.length r.c.length) := cell_obj d2 rfl
    have g3 := cell_obj d3 (tc_get _ _ HI.out.1)
    have g4 : (w1.setCell ⟨bi, k, none⟩ (.bool true)).drew.frozen? ⟨bc, k, none⟩ = false := by simp [World.frozen?, d3]
    have g5 : (w1.setCell ⟨bi, k, none⟩ (.bool true)).drew.cell? ⟨w.heap.size, 3, none⟩ = some (.int .i64 (k : Nat)) := by rw [← HKI.out]; exact d4.idx
    have g6 := d4.data
    have HR := Lib.hid (HS1.out.kept k f.data HI.out.1 HI.out.2 (Keep.refl _).drew (Keep.refl ((w1.setCell ⟨bi, k, none⟩ (.bool true)).drew.setCell ⟨bc, k, none⟩ (.string ⟨f.data.toArray⟩))).drew)
    have HW := Lib.hid (show Turn [g, bi, bc, bd] w ((w1.setCell ⟨bi, k, none⟩ (.bool true)).drew.setCell ⟨bc, k, none⟩ (.string ⟨f.data.toArray⟩)).drew from ((Turn.ofKeep HK1.out (T2.mono (by simp))).trans (Turn.setCell _ bc k _ (by simp))).drew)
    clear d2 d3 d4 T2 HS1 HK1 HF1 HI
    generalize r.c.length = N at *
    generalize r.l.getD k false = old at *
    generalize r.c.getD k [] = old2 at *
    generalize f.data = dt at *
    generalize hv : (w1.setCell ⟨bi, k, none⟩ (.bool true)).drew = v at *
    go_wp2_with fail
    go_region
    clear ci fi c2 c3 hv
    go_wp2_with fail
    go_region
    go_wp2
    go_ret
    exact ⟨rfl, by rw [HT.out]; exact HR.out, HW.out⟩
  · have HT : Hid (r.take f = r.count (r.wrong f : Nat)) := Lib.hid (by unfold Rv.take; rw [if_neg hw])
    have hne : (((r.wrong f : Nat) : Int) != 0) = true := by simp; omega
    have hlt := wrong_lt r f
    have hwr : wrap64 (((r.d (r.wrong f : Nat) : Nat) : Int) + 1) = ((r.d (r.wrong f : Nat) : Nat) : Int) + 1 := IntWalk.wrap64_in _ (by omega)
    clear hS h k1 hA hn hs hw hneB hd
    generalize fc f = C at *
    generalize r.wrong f = W at *
    go_enter Tryd.func15, Tryd.ntmps15
    go_wp2_with fail
    refine HV.out.mono ?_
    rintro e w1 ⟨rfl, q1⟩
    have hS1 := HS.out w1 q1
    have c4 := hS1.d
    have c5 := hS1.count W hlt
    have f5 := hS1.freed W
    have hR := hS1.counted W hlt
    have hT : Turn [g, bi, bc, bd] w (w1.setCell ⟨bd, W, none⟩ (.int .i64 (r.d W + 1 : Nat))) := Turn.ofKeep (HK.out w1 q1) (Turn.setCell w1 bd W _ (by simp))
    have hsum : ((r.d W + 1 : Nat) : Int) = ((r.d W : Nat) : Int) + 1 := by omega
    rw [hsum] at hR hT
    have HR := Lib.hid (And.intro hR hT)
    clear HV HS HK q1 hl hS1 hR hT hsum
    generalize r.count W = r2 at *
    generalize r.d W = z at *
    go_wp2
    go_ret
    exact ⟨rfl, by rw [HT.out]; exact HR.out.1, HR.out.2⟩

/-- Behind k chunks that are there. -/
def DtRel (r : Rv) (w : World) (sv iv : Value) (wr : World) : Prop := wr = w ∧ ∃ k : Nat, iv = .int .i64 k ∧ k ≤ r.c.length ∧ (∀ i, i < k → r.l.getD i false = true) ∧ sv = .string ⟨(r.c.take k).flatten.toArray⟩
theorem flat_next (c : List (List UInt8)) (k : Nat) (h : k < c.length) : (c.take (k + 1)).flatten = (c.take k).flatten ++ c.getD k [] := by
  rw [List.take_add_one, List.getD_eq_getElem?_getD, List.getElem?_eq_getElem h]
  simp only [Option.toList_some, List.flatten_append, List.flatten_cons, List.flatten_nil, List.append_nil, Option.getD_some]
theorem flat_le_take {r : Rv} (h : Good r) (k : Nat) : (r.c.take k).flatten.length ≤ 256000 := by
  have e : r.c.flatten = (r.c.take k).flatten ++ (r.c.drop k).flatten := by rw [← List.flatten_append, List.take_append_drop]
  have := h.flat
  rw [e, List.length_append] at this
  omega
set_option maxRecDepth 100000 in
set_option maxHeartbeats 1000000 in
theorem qdata_at (h : R w g bi bc bd r) : Calls Tryd.prog 22 #[.pointer (some ⟨g, 0, none⟩)] w fun e w' => e = .returned (.tuple #[.string ⟨r.data.toArray⟩, .bool (decide r.full)]) ∧ w' = w := by
  have c3 := h.c
  have c2 := h.i
  have HR := Lib.hid h
  have hfew := h.good.few
  clear h
  obtain ⟨N, hN⟩ : ∃ N, r.c.length = N := ⟨_, rfl⟩
  have HN := Lib.hid hN
  rw [hN] at c3 c2 hfew
  clear hN
  go_enter Tryd.func22, Tryd.ntmps22
  go_wp2_with fail
  go_loopw [4, 5] (fun sv iv wr => DtRel r w sv iv wr) (fun _ iv _ => 300 - (intOf iv).toNat)
  case atStart => exact ⟨rfl, 0, rfl, Nat.zero_le _, fun i hi => by omega, rfl⟩
  case round =>
    obtain ⟨rfl, k, rfl, hk, hall, rfl⟩ := hrel
    rw [HN.out] at hk
    have HA := Lib.hid hall
    clear hall
    by_cases hlt : k < N
    · have c5 := HR.out.there k (by rw [HN.out]; exact hlt)
      have c6 := HR.out.text k (by rw [HN.out]; exact hlt)
      by_cases hb : r.l.getD k false = true
      · have HX := Lib.hid (flat_next r.c k (by rw [HN.out]; exact hlt))
        have HB := Lib.hid hb
        have happ := app_list (r.c.take k).flatten (r.c.getD k [])
        have hL1 : (r.c.take k).flatten.length + (r.c.getD k []).length ≤ 1000000 := by have := flat_le_take HR.out.good k; have := HR.out.good.text k; omega
        rw [hb] at c5
        clear hb
        generalize (r.c.take k).flatten = X at *
        generalize r.c.getD k [] = Y at *
        go_wp2
        go_roundw
        case rel => exact ⟨rfl, k + 1, by go_num, by rw [HN.out]; omega, fun i hi => by
            by_cases e : i = k
            · rw [e]; exact HB.out
            · exact HA.out i (by omega), by rw [HX.out]⟩
        case measure => simp [intOf]; omega
      · have hbf : r.l.getD k false = false := by simpa using hb
        have hnf : ¬ r.full := fun hf => by
          have hb2 := base_below r.l k (by unfold Rv.full at hf; rw [hf, HN.out]; exact hlt)
          rw [hbf] at hb2
          cases hb2
        have HE := Lib.hid (show r.data = [] ∧ decide r.full = false from ⟨if_neg hnf, decide_eq_false hnf⟩)
        rw [hbf] at c5
        clear hb hbf hnf
        go_wp2
        go_ret2
        exact ⟨by rw [HE.out.1, HE.out.2]; rfl, rfl⟩
    · obtain rfl : k = N := by omega
      have hf : r.full := by
        unfold Rv.full
        have hl := HR.out.good.len
        rw [← hl]
        exact base_full fun i hi => HA.out i (by rw [← HN.out, ← hl]; exact hi)
      have HE := Lib.hid (show r.data = (r.c.take k).flatten ∧ decide r.full = true from ⟨by unfold Rv.data; rw [if_pos hf, List.take_of_length_le (by rw [HN.out]; exact Nat.le_refl _)], decide_eq_true hf⟩)
      clear hf
      go_wp2
      go_ret2
      exact ⟨by rw [HE.out.1, HE.out.2]; rfl, rfl⟩
end
end Go.Proofs.YtifcibmpeolmdaaDoor
