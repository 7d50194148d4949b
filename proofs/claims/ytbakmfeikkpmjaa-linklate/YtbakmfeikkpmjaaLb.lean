/- Proved: a list of texts of one's own, wherever in its block it begins: what append makes of it, what is cut off at its front. Condition: lists are short enough for memory. -/
import Derived.Test.YtbakmfeikkpmjaaLa
import Derived.Maps.AppendAt
import Derived.ArgAppend
namespace Go.Proofs.Ytbakmfeikkpmjaa
open Go.RowKit

theorem grown_setCells (g : Nat) : ∀ (vs : List Value) (o : Nat) (w : World), w.grownBy (w.setCells g o vs) (some g)
  | [], _, w => ⟨rfl, rfl, rfl, Nat.le_refl _, fun _ _ _ => rfl⟩
  | v :: r, o, w => by
    have h := grown_setCells g r (o + 1) (w.setCell ⟨g, o, none⟩ v)
    have k := Only.setCell g o w v
    refine ⟨h.os.trans k.os, h.tape.trans k.tape, h.output.trans k.output, Nat.le_trans k.size h.size, fun i hi hn => ?_⟩
    rw [World.setCells, h.block i (Nat.lt_of_lt_of_le hi k.size) hn, k.block i hi (fun e => hn (by rw [e]))]

/-- A list of texts of one's own, in a block from B on. -/
def Qs (B : Nat) (w : World) (v : Value) (L : List (List UInt8)) : Prop :=
  (v = .slice none 0 0 ∧ L = []) ∨ ∃ g o cap, v = .slice (some ⟨g, o, none⟩) L.length cap ∧ B ≤ g ∧ g < w.heap.size ∧ L.length ≤ cap ∧ cap ≤ maxLen ∧
    (∀ j u, (flat se L)[j]? = some u → w.cell? ⟨g, o + j, none⟩ = some u) ∧ (∀ j, j < cap → (w.cell? ⟨g, o + j, none⟩).isSome = true ∧ w.frozen? ⟨g, o + j, none⟩ = false)
section
variable {B : Nat} {w w' : World} {v : Value} {L : List (List UInt8)}
theorem Qs.nil (B : Nat) (w : World) : Qs B w (.slice none 0 0) [] := .inl ⟨rfl, rfl⟩
theorem Qs.cells (h : Qs B w v L) : TexS w v L := by
  rcases h with ⟨rfl, rfl⟩ | ⟨g, o, cap, rfl, _, h2, h3, h4, h5, _⟩
  · exact Cells.nil w
  · exact .inr ⟨g, o, cap, rfl, h3, h4, h2, h5⟩
theorem Qs.low (h : Qs B w v L) (g : Nat) (hg : v.ownBlock = some g) : B ≤ g ∧ g < w.heap.size := by
  rcases h with ⟨rfl, rfl⟩ | ⟨g', o, cap, rfl, h1, h2, _⟩
  · simp [Value.ownBlock] at hg
  · simp [Value.ownBlock] at hg
    subst hg
    exact ⟨h1, h2⟩
theorem Qs.block (h : Qs B w v L) (hs : w.heap.size ≤ w'.heap.size) (k : ∀ g, v.ownBlock = some g → w'.heap[g]? = w.heap[g]?) : Qs B w' v L := by
  rcases h with h | ⟨g, o, cap, rfl, h1, h2, h3, h4, h5, h6⟩
  · exact .inl h
  · have e := k g rfl
    refine .inr ⟨g, o, cap, rfl, h1, by omega, h3, h4, fun j u hj => (World.cell?_of_block (w := w) (a := ⟨g, o + j, none⟩) e).trans (h5 j u hj), fun j hj => ?_⟩
    rw [World.cell?_of_block (w := w) (a := ⟨g, o + j, none⟩) e, World.frozen?_of_block (w := w) (a := ⟨g, o + j, none⟩) e]
    exact h6 j hj
theorem Qs.keep (h : Qs B w v L) (k : Keep w w') : Qs B w' v L := h.block k.size fun g hg => k.block g (h.low g hg).2
/-- Beside an append onto another one. -/
theorem Qs.beside {row : Option Nat} (h : Qs B w v L) (k : w.grownBy w' row) (hr : ∀ g, v.ownBlock = some g → row ≠ some g) : Qs B w' v L :=
  h.block k.size fun g hg => k.block g (h.low g hg).2 (fun e => hr g hg e.symm)
theorem Qs.only {b : Nat} (h : Qs B w v L) (k : Only b w w') (hb : b < B) : Qs B w' v L :=
  h.block k.size fun g hg => k.block g (h.low g hg).2 (fun e => by have := (h.low g hg).1; omega)
theorem Qs.own (h : w.ownsRow B 9 1 v L.length (flat se L)) : Qs B w v L := by
  have hc := h
  rcases h.2 with ⟨rfl, hn⟩ | ⟨g, cap, cur, rfl, h1, h2, h3, h4, h5, h6⟩
  · exact .inl ⟨rfl, List.eq_nil_of_length_eq_zero hn⟩
  · refine .inr ⟨g, 0, cap, rfl, h1, block_lt h2, h3, h4, fun j u hj => ?_, fun j hj => ?_⟩
    · have := hc.cells (g := g) rfl j u hj
      rwa [show (⟨g, 0, none⟩ : Addr).add j = ⟨g, 0 + j, none⟩ from by unfold Addr.add; split <;> simp_all] at this
    · have hlt : j < cur.size := by omega
      constructor
      · rw [cell_obj (i := 0 + j) h2 (v := cur[j]) (by rw [Nat.zero_add]; exact Array.getElem?_eq_getElem hlt)]; rfl
      · simp [World.frozen?, h2]
theorem Qs.run (h : Qs B w v L) (m : List (List UInt8)) (u : Value) (hu : TexS w u m) (hb : L.length + m.length ≤ 1000000) (hB : B ≤ w.heap.size) (ty : TypeId) :
    ∃ v' w', (Builtin.append_ #[33, 33] ty #[v, u]).run Try.prog w = .ok v' w' ∧ Qs B w' v' (L ++ m) ∧ w.grownBy w' v.ownBlock ∧ (v'.ownBlock = v.ownBlock ∨ ∀ g, v'.ownBlock = some g → w.heap.size ≤ g) := by
  obtain ⟨it, z, hi, hz, hsz, hby, hzs⟩ := elS.info
  have ht := elS.under
  have hfl : ∀ l : List (List UInt8), (flat se l).length = l.length * 1 := fun l => by rw [flat_len se se_len]
  have hone := flat_one' elS.one m
  rcases hu with ⟨rfl, rfl⟩ | ⟨g2, o2, cap2, rfl, c1, c2, c3, c4⟩
  · refine ⟨v, w, ?_, by simpa using h, ⟨rfl, rfl, rfl, Nat.le_refl _, fun _ _ _ => rfl⟩, .inl rfl⟩
    rcases h with ⟨rfl, rfl⟩ | ⟨g, o, cap, rfl, _, _, h3, _⟩
    · simp [Builtin.append_, run_underlying ht, sizeOf, typeInfo, hi, Builtin.lenOf, Builtin.firstCells]
    · simp [Builtin.append_, run_underlying ht, sizeOf, typeInfo, hi, Builtin.lenOf, Builtin.firstCells, h3, storeCells]
  · have hnews : ∀ j u, (flat se m)[j]? = some u → w.cell? ((⟨g2, o2, none⟩ : Addr).add j) = some u := fun j u hj => by
      rw [Addr.add_lit]; exact c4 j u hj
    rcases h with ⟨rfl, rfl⟩ | ⟨g, o, cap, rfl, h1, h2, h3, h4, h5, h6⟩
    · obtain ⟨v', w', r1, r2, r3, _, r5⟩ := run_append_own_at (P := Try.prog) w B 33 ty 9 it z 1 16 ht hi hz hsz hby hzs (by omega) _ 0 [] (World.ownsRow_nil w B 9 1) ⟨g2, o2, none⟩ m.length cap2 (flat se m) (hfl m) hnews hone (by unfold maxLen; simp at hb; omega) (by simp at hb; omega) hB
      refine ⟨v', w', r1, Qs.own ?_, r3, ?_⟩
      · simpa using r2
      · rcases r5 with r5 | r5
        · exact .inl r5
        · exact .inr fun g hg => by rw [r5] at hg; simp at hg; omega
    · by_cases hroom : L.length + m.length ≤ cap
      · have hr := run_append_room_cells (P := Try.prog) w 33 ty 9 it ht hi g o L.length cap ⟨g2, o2, none⟩ m.length cap2 (flat se m) (by rw [hsz]; exact hfl m) hnews hone hroom
          (fun j hj => by rw [hfl] at hj; rw [hsz, Nat.mul_one, Nat.add_assoc]; exact (h6 _ (by omega)).1) (fun j hj => by rw [hfl] at hj; rw [hsz, Nat.mul_one, Nat.add_assoc]; exact (h6 _ (by omega)).2)
        rw [hsz, Nat.mul_one] at hr
        have hgr := grown_setCells g (flat se m) (o + L.length) w
        refine ⟨_, _, hr, .inr ⟨g, o, cap, by rw [List.length_append], h1, Nat.lt_of_lt_of_le h2 hgr.size, by rw [List.length_append]; exact hroom, h4, fun j u hj => ?_, fun j hj => ?_⟩, hgr, .inl rfl⟩
        · rw [flat_append] at hj
          by_cases hjl : j < L.length
          · rw [List.getElem?_append_left (by rw [hfl]; omega)] at hj
            rw [World.cell?_setCells_out g _ _ _ _ (fun _ _ => .inl (by show o + j < o + L.length; omega))]
            exact h5 j u hj
          · rw [List.getElem?_append_right (by rw [hfl]; omega), hfl] at hj
            obtain ⟨hj2, hx⟩ := List.getElem?_eq_some_iff.1 hj
            have := World.cell?_setCells_in g (flat se m) (o + L.length) w (fun i hi => by rw [hfl] at hi; rw [Nat.add_assoc]; exact (h6 _ (by omega)).1) (j - L.length * 1) hj2
            rw [show o + L.length + (j - L.length * 1) = o + j by omega, hx] at this
            exact this
        · refine ⟨?_, by rw [World.frozen?_setCells]; exact (h6 j hj).2⟩
          by_cases hin : L.length ≤ j ∧ j < L.length + m.length
          · have := World.cell?_setCells_in g (flat se m) (o + L.length) w (fun i hi => by rw [hfl] at hi; rw [Nat.add_assoc]; exact (h6 _ (by omega)).1) (j - L.length) (by rw [hfl]; omega)
            rw [show o + L.length + (j - L.length) = o + j by omega] at this
            rw [this]; rfl
          · rw [World.cell?_setCells_out g _ _ _ _ (fun _ _ => by show o + j < o + L.length ∨ o + L.length + (flat se m).length ≤ o + j; rw [hfl]; omega)]
            exact (h6 j hj).1
      · obtain ⟨v', w', r1, r2, r3⟩ := run_append_arg_grows (P := Try.prog) w 33 ty 9 it z 1 16 ht hi hz hsz hby hzs (by omega) ⟨g, o, none⟩ L.length cap (flat se L) (hfl L) (fun j u hj => by rw [Addr.add_lit]; exact h5 j u hj) ⟨g2, o2, none⟩ m.length cap2 (flat se m) (hfl m) hnews (by omega) (by unfold maxLen; omega) (by omega)
        have hq : Qs w.heap.size w' v' (L ++ m) := Qs.own (by rw [flat_append, List.length_append]; exact r2)
        rcases hq with ⟨_, e2⟩ | ⟨g', o', cap', e1, e2, e3, e4, e5, e6, e7⟩
        · exfalso
          have := congrArg List.length e2
          rw [List.length_append] at this
          simp at this
          simp only [this.1, this.2] at hroom
          simp at hroom
        · refine ⟨v', w', r1, .inr ⟨g', o', cap', e1, by omega, e3, e4, e5, e6, e7⟩, ⟨r3.os, r3.tape, r3.output, r3.size, fun k hk _ => r3.block k hk (by simp)⟩, .inr fun g hg => ?_⟩
          rw [e1] at hg
          simp [Value.ownBlock] at hg
          omega
end
/-- append, in a region that draws no order. -/
theorem wp_appQ {ops : Array Oper} {rest : List Oper} {o : Oper} {a : Act} {Q : Exit → Act → World → Prop} {w : World} (hgd : o.guard = none) (s x : Operand)
    (ho : o.op = .call { callee := .builtin .append, args := #[s, x], argTypes := #[33, 33] }) (B : Nat) (v u : Value) (l m : List (List UInt8)) (hs : a.eval s = v) (hx : a.eval x = u) (hown : Qs B w v l) (hsrc : TexS w u m)
    (hb : l.length + m.length ≤ 1000000) (hbase : B ≤ w.heap.size) (H : Nat) (hH : w.heap.size = H)
    (h : ∀ v' w', Qs B w' v' (l ++ m) → w.grownBy w' v.ownBlock → (v'.ownBlock = v.ownBlock ∨ ∀ g, v'.ownBlock = some g → H ≤ g) → wpList Try.prog ops Q rest (a.put o.dst v') w') : wpList Try.prog ops Q (o :: rest) a w := by
  refine wpList_plain hgd fun K hK => ?_
  obtain ⟨v', w', hr, h1, h2, h3⟩ := hown.run m u hsrc hb hbase o.type
  unfold Oper.wp execOp
  simp only [ho, resolve, invoke, builtin, Sem.run_bind, Sem.run_pure, Result.andThen_ok, List.map_toArray, List.map_cons, List.map_nil, hs, hx, hr]
  exact hK _ _ (h v' w' h1 h2 (hH ▸ h3))
/-- .. as a step of one that does. -/
theorem step_appQ {ops : Array Oper} {o : Oper} {a : Act} {K : Act → World → Prop} {Q : Exit → Act → World → Prop} {w : World} {X : Prop} (hgd : o.guard = none) (s x : Operand)
    (ho : o.op = .call { callee := .builtin .append, args := #[s, x], argTypes := #[33, 33] }) (B : Nat) (v u : Value) (l m : List (List UInt8)) (hs : a.eval s = v) (hx : a.eval x = u) (hown : Qs B w v l) (hsrc : TexS w u m)
    (hb : l.length + m.length ≤ 1000000) (hbase : B ≤ w.heap.size) (H : Nat) (hH : w.heap.size = H)
    (h : ∀ v' w', Qs B w' v' (l ++ m) → w.grownBy w' v.ownBlock → (v'.ownBlock = v.ownBlock ∨ ∀ g, v'.ownBlock = some g → H ≤ g) → K (a.put o.dst v') w') : if Region.wanted o (yielded ops a.tmps) = true then Oper.wp Try.prog o a w K Q else X := by
  have hw : Region.wanted o (yielded ops a.tmps) = true := by simp [Region.wanted, hgd]
  rw [if_pos hw]
  obtain ⟨v', w', hr, h1, h2, h3⟩ := hown.run m u hsrc hb hbase o.type
  unfold Oper.wp execOp
  simp only [ho, resolve, invoke, builtin, Sem.run_bind, Sem.run_pure, Result.andThen_ok, List.map_toArray, List.map_cons, List.map_nil, hs, hx, hr]
  exact h v' w' h1 h2 (hH ▸ h3)
/-- A call of a Go function, as a step of a region that draws its order. -/
theorem step_call {P : Program} {ops : Array Oper} {o : Oper} {a : Act} {K : Act → World → Prop} {Q : Exit → Act → World → Prop} {w : World} {X : Prop} {f : FuncId} {args : Array Value} {v : Value} {R : World → Prop} (hgd : o.guard = none)
    (he : (execOp a.eval o).run P w = .ok (.enter f args) w) (hc : Calls P f args w fun e w' => e = .returned v ∧ R w') (h : ∀ w', R w' → K (a.put o.dst v) w') : if Region.wanted o (yielded ops a.tmps) = true then Oper.wp P o a w K Q else X := by
  have hw : Region.wanted o (yielded ops a.tmps) = true := by simp [Region.wanted, hgd]
  rw [if_pos hw]
  unfold Oper.wp
  rw [he]
  simp only [Oper.upon]
  exact hc.mono fun e w' ⟨e1, e2⟩ => by subst e1; exact h w' e2
end Go.Proofs.Ytbakmfeikkpmjaa
