/- Proved: what the document's Drop answers. Condition: the list is in order and no longer than a table. -/
import Derived.Test.YtgkgpdlakamgiaaGreatRf
import Derived.Deep.RegionHeldLaw
import Derived.Deep.RegionLaw
namespace Go.Proofs.YtgkgpdlakamgiaaGreat
open Go.RowKit

theorem step_app {α : Type} {ts t k bs : Nat} {enc : α → List Value} (E : El ts t k bs enc) {ops : Array Oper} {o : Oper} {a : Act} {K : Act → World → Prop} {Q : Exit → Act → World → Prop} {w : World} {X : Prop} (hgd : o.guard = none) (s x : Operand)
    (ho : o.op = .call { callee := .builtin .append, args := #[s, x], argTypes := #[ts, ts] }) (B : Nat) (v u : Value) (l m : List α) (hs : a.eval s = v) (hx : a.eval x = u) (hown : Own t k enc B w v l) (hsrc : Cells enc w u m)
    (hsm : (l.length + m.length) * bs ≤ 140737488355328) (hb : l.length + m.length ≤ 1000000) (hbase : B ≤ w.heap.size)
    (h : ∀ v' w', Own t k enc B w' v' (l ++ m) → w.grownBy w' v.ownBlock → K (a.put o.dst v') w') : if Region.wanted o (yielded ops a.tmps) = true then Oper.wp Tryz.prog o a w K Q else X := by
  have hw : Region.wanted o (yielded ops a.tmps) = true := by simp [Region.wanted, hgd]
  rw [if_pos hw]
  obtain ⟨it, z, hi, hz, hsz, hby, hzs⟩ := E.info
  rcases hsrc with ⟨rfl, rfl⟩ | ⟨g, off, cap, rfl, h1, h2, h3, h4⟩
  · have hrun := run_append_owned_none (P := Tryz.prog) (w := w) B ts o.type t it k E.under hi v _ _ hown
    have hK := h v w (by simpa using hown) ⟨rfl, rfl, rfl, Nat.le_refl _, fun _ _ _ => rfl⟩
    unfold Oper.wp
    simp [execOp, ho, resolve, invoke, builtin, hs, hx, hrun, Result.andThen]
    exact hK
  · refine wp_append_own w s x ts ho B t it z k bs E.under hi hz hsz hby hzs E.pos v _ _ hs hown ⟨g, off, none⟩ m.length cap (flat enc m) hx (flat_len enc E.len m) ?_ (flat_one' E.one m) (by unfold maxLen; omega) hsm hbase ?_
    · intro j u hj
      rw [show (⟨g, off, none⟩ : Addr).add j = ⟨g, off + j, none⟩ from by unfold Addr.add; split <;> simp_all]
      exact h4 j u hj
    · intro v' w' k1 k2 _
      refine h v' w' ?_ k2
      unfold Own
      rw [flat_append, List.length_append]
      exact k1

def DropPost (w : World) (x : List Rt × Int) (e : Ending) (w' : World) : Prop := ∃ v', e = .returned (.tuple #[v', .int .i64 x.2]) ∧ Row rl 57 w' v' x.1 ∧ Keep w w'

set_option maxRecDepth 100000 in
set_option maxHeartbeats 2000000 in
theorem qdrop (v : Value) (l : List Rt) (p : Px) (hp : L16 p) (w : World) (h : Row rl 57 w v l) (hs : Sorted l) (hl : l.length ≤ 300) : Calls Tryz.prog 79 #[v, .agg (pc p)] w (DropPost w (dropS l p)) := by
  have hA := (one_at w p hp).1
  have hS : Keep w (w.alloc (.cells (pc p) 54)) := (Keep.refl w).alloc _
  obtain ⟨n2, hn2⟩ : ∃ n, n = 18 := ⟨18, rfl⟩
  have hsz2 : ∀ w, (Go.sizeOf 54).run Tryz.prog w = .ok n2 w := fun w => by rw [hn2]; exact Tryz.sizeOf54 w
  have hn20 : ¬ n2 = 0 := by omega
  have h1 := hA.whole hn2
  have HS := Lib.hid hS
  have HV := Lib.hid (h.keep hS)
  have HF := Lib.hid (find v l p hp _ HV.out.cells (by omega))
  obtain ⟨X, hX⟩ : ∃ X, dropS l p = X := ⟨_, rfl⟩
  rw [hX]
  have HX := Lib.hid hX
  have HSO := Lib.hid hs
  clear hA hS hn2 h hX hs
  go_enter Tryz.func79, Tryz.ntmps79
  go_wp2_with fail
  refine HF.out.mono ?_
  rintro e w2 ⟨z, rfl, hf, b2⟩
  have HV2 := Lib.hid (HV.out.keep b2)
  have HK2 := Lib.hid (HS.out.trans b2)
  clear h1 b2 HV HS HF
  rcases hf with ⟨rfl, hh⟩ | ⟨k, x, rfl, hx, he⟩
  · have HXE := Lib.hid (show X = (l, 8) from by rw [← HX.out]; unfold dropS; rw [if_neg (by simp [hh])])
    clear hh
    go_wp2
    go_ret2
    exact ⟨v, by rw [HXE.out]; rfl, by rw [HXE.out]; exact HV2.out, HK2.out⟩
  · obtain ⟨hh, hrk⟩ := find_rank HSO.out hp hx he
    have HXE := Lib.hid (show X = (l.take k ++ l.drop (k + 1), 0) from by rw [← HX.out]; unfold dropS cutP; rw [if_pos hh, hrk])
    have hkL : k < l.length := (List.getElem?_eq_some_iff.1 hx).1
    obtain ⟨v1, s1, r1⟩ := cut_to HV2.out k (by omega)
    obtain ⟨v3, s3, r3⟩ := cut_from HV2.out (k + 1) (by omega)
    have s3' : ∀ w', (Instr.sliceAt 36 v (some (.int .i64 ((k : Int) + 1))) none none).run Tryz.prog w' = .ok v3 w' := fun w' => by
      have := s3 w'
      rwa [show ((k + 1 : Nat) : Int) = (k : Int) + 1 by omega] at this
    have hkI : ¬ ((k : Int) < 0) := by omega
    have hwr : IntKind.i64.wrap ((k : Int) + 1) = (k : Int) + 1 := by simp [IntKind.wrap, IntKind.bits, IntKind.signed]; omega
    have hk2 : k ≤ 1000000 := by omega
    have HK3 := Lib.hid (show Keep w2 (w2.alloc (.cells #[] 57)).drew from ((Keep.refl w2).alloc _).drew)
    have HO := Lib.hid ((Own.made (t := 57) (k := 20) (enc := rl) w2.heap.size w2 (Nat.le_refl _)).keep (show Keep _ (w2.alloc (.cells #[] 57)).drew from (Keep.refl _).drew))
    have hsz3 : w2.heap.size ≤ (w2.alloc (.cells #[] 57)).drew.heap.size := HK3.out.size
    have R1 := Lib.hid (r1.keep HK3.out)
    have R3 := Lib.hid (r3.keep HK3.out)
    have R30 := Lib.hid r3
    have q1 : (([] : List Rt).length + (l.take k).length) * 48 ≤ 140737488355328 := by simp; omega
    have q2 : ([] : List Rt).length + (l.take k).length ≤ 1000000 := by simp; omega
    have q3 : ((l.take k).length + (l.drop (k + 1)).length) * 48 ≤ 140737488355328 := by simp; omega
    have q4 : (l.take k).length + (l.drop (k + 1)).length ≤ 1000000 := by simp; omega
    have Q1 := Lib.hid q1
    have Q2 := Lib.hid q2
    have Q3 := Lib.hid q3
    have Q4 := Lib.hid q4
    clear hh hrk hx he s3 r1 r3 q1 q2 q3 q4
    go_wp2_with fail
    go_region_held_law (fun _ => True) (trivial) ((first | (refine step_app elR (by rfl) _ _ (by rfl) w2.heap.size _ _ [] (l.take k) (by rfl) (by rfl) HO.out R1.out.cells Q1.out Q2.out hsz3 ?_; intro v7 w7 o7 g7) | (refine step_app elR (by rfl) _ _ (by rfl) w2.heap.size _ _ (l.take k) (l.drop (k + 1)) (by rfl) (by rfl) o7 (R30.out.keep (HO.out.grown HK3.out (Nat.le_refl _) g7)).cells Q3.out Q4.out (HO.out.grown HK3.out (Nat.le_refl _) g7).size ?_; intro v8 w8 o8 g8)))
    all_goals
      have HK7 := Lib.hid (HO.out.grown HK3.out (Nat.le_refl _) g7)
      have HK8 := Lib.hid (HK2.out.trans (Own.grown o7 HK7.out (Nat.le_refl _) g8))
      have HR8 := Lib.hid (Own.row elR o8)
      clear o7 g7 o8 g8
      go_wp2
      go_ret2
      exact ⟨v8, by rw [HXE.out]; first | rfl | simp, by rw [HXE.out]; exact HR8.out, HK8.out⟩
end Go.Proofs.YtgkgpdlakamgiaaGreat
