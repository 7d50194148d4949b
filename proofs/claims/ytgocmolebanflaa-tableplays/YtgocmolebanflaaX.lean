/- Proved: what the library's SortFunc makes of a list of routes. Condition: the list is one's own. -/
import Derived.Test.YtgocmolebanflaaL
import Derived.Test.YtgocmolebanflaaShelf
namespace Go.Proofs.Ytgocmolebanflaa
open Go.RowKit
open Go.Sort (size_grow heap_grow_old)

theorem grow_of_same {w w' : World} (h : Same w w') : ∃ q os, w' = Go.Sort.grow (w.drewN q) os := by
  refine ⟨w'.drawn - w.drawn, w'.heap.extract w.heap.size w'.heap.size, ?_⟩
  have h1 : w'.heap = w.heap ++ w'.heap.extract w.heap.size w'.heap.size := by
    apply Array.ext_getElem?
    intro i
    rw [Array.getElem?_append]
    split
    · rename_i hi
      exact h.block i hi
    · rename_i hi
      rw [Array.getElem?_extract]
      have := h.size
      split
      · rename_i h2
        congr 1
        omega
      · rename_i h2
        rw [Array.getElem?_eq_none (by omega)]
  have h2 : w.drawn + (w'.drawn - w.drawn) = w'.drawn := by have := h.drawn; omega
  obtain ⟨hp, tp, dr, os, out⟩ := w'
  simp only [Go.Sort.grow, World.drewN]
  have a1 := h.os
  have a2 := h.tape
  have a3 := h.output
  simp only at h1 h2 a1 a2 a3
  rw [a1, a2, a3, h2, ← h1]
theorem same_grow {w : World} {q : Nat} {os : Array Obj} : Keep w (Go.Sort.grow (w.drewN q) os) :=
  ⟨rfl, rfl, rfl, by rw [size_grow]; exact Nat.le_add_right _ _, fun k hk => heap_grow_old _ _ hk⟩

theorem flatK_eq (l : List Rt) : Go.Sort.flatK rl 20 l.toArray = (flat rl l).toArray := by
  have hl := flat_len rl rl_len l
  apply Array.ext
  · simp [hl]
  · intro t h1 h2
    simp at h1
    have hj : t / 20 < l.length := by omega
    have hx : l[t / 20]? = some l[t / 20] := List.getElem?_eq_getElem hj
    have hf := flat_get rl rl_len l (t / 20) _ hx (t % 20) (by omega)
    rw [show t / 20 * 20 + t % 20 = t by omega] at hf
    have h3 : t < (flat rl l).length := by rw [hl]; omega
    rw [List.getElem?_eq_getElem h3, List.getElem?_eq_getElem (by rw [rl_len]; omega)] at hf
    have hg := Go.Sort.get_flatK rl 20 l.toArray t (by simpa using h1)
    rw [getElem!_pos _ t (by simpa using h1)] at hg
    rw [hg]
    simp only [Option.some.injEq] at hf
    rw [List.getElem_toArray, hf]
    have e1 : l.toArray[t / 20]! = l[t / 20] := by rw [getElem!_pos _ _ (by simpa using hj)]; simp
    rw [e1, getElem!_pos _ _ (by rw [rl_len]; omega)]

def cfR (a b : Rt) : Int := cmpP a.to b.to
theorem swoR : Go.Sort.SWO (Go.Proofs.ltOf cfR) where
  irrefl x := by simp [Go.Proofs.ltOf, cfR, (cmp_zero x.ok x.ok).2 rfl]
  trans x y z h1 h2 := decide_eq_true (cmp_lt_trans x.ok y.ok z.ok (of_decide_eq_true h1) (of_decide_eq_true h2))
  ntrans x y z h1 h2 := by
    have j1 : ¬ cmpP x.to y.to < 0 := of_decide_eq_false h1
    have j2 : ¬ cmpP y.to z.to < 0 := of_decide_eq_false h2
    have k1 := cmp_neg x.ok y.ok
    have k2 := cmp_neg y.ok z.ok
    have k3 := cmp_neg x.ok z.ok
    have := cmp_le_trans z.ok y.ok x.ok (by omega) (by omega)
    exact decide_eq_false (show ¬ cmpP x.to z.to < 0 by omega)
theorem laysR (blk off size : Nat) (w : World) : Go.Proofs.CmpLays Try.prog 37 #[] rl 20 cfR blk off size w := fun _ _ _ _ x y =>
  (order x y _).mono fun _ _ ⟨he, hs⟩ => ⟨he, grow_of_same hs⟩

theorem own_holds {B : Nat} {w : World} {g cap : Nat} {l : List Rt} (h : Own 34 20 rl B w (.slice (some ⟨g, 0, none⟩) l.length cap) l) : Go.Sort.HoldsK rl 20 w g 0 l.toArray ∧ ∃ cur, w.heap[g]? = some (.cells cur 34 (0, 0)) := by
  have hc := World.ownsRow.cells h (g := g) rfl
  rcases h.2 with ⟨h1, _⟩ | ⟨g', cap', cur, h1, _, h3, _⟩
  · cases h1
  · simp at h1
    obtain ⟨rfl, _⟩ := h1
    refine ⟨?_, cur, h3⟩
    unfold Go.Sort.HoldsK
    rw [flatK_eq]
    intro j hj
    simp at hj
    refine ⟨?_, by simp [World.frozen?, h3]⟩
    have := hc j _ (List.getElem?_eq_getElem hj)
    rw [show (⟨g, 0, none⟩ : Addr).add j = ⟨g, 0 + j, none⟩ from by unfold Addr.add; split <;> simp_all] at this
    rw [this, getElem!_pos _ j (by simpa using hj)]
    simp

theorem sortW {w : World} {g n : Nat} {d d' : Array Rt} {os : Array Obj} {cur : Array Value} (hH : Go.Sort.HoldsK rl 20 w g 0 d) (hg : w.heap[g]? = some (.cells cur 34 (0, 0))) (hs : d'.size = d.size) :
    (∀ j u, (flat rl d'.toList)[j]? = some u → (Go.Proofs.sortWorldK rl 20 w g 0 n d' os).cell? ⟨g, 0 + j, none⟩ = some u) ∧ (∃ c fz, (Go.Proofs.sortWorldK rl 20 w g 0 n d' os).heap[g]? = some (.cells c 34 fz)) ∧ Only g w (Go.Proofs.sortWorldK rl 20 w g 0 n d' os) := by
  have hb := block_lt hg
  have hh := Go.Proofs.holdsK_sortWorldK_c rl 20 w g 0 d d' n os hH hb hs
  refine ⟨fun j u hj => ?_, ?_, ?_⟩
  · unfold Go.Sort.HoldsK at hh
    rw [← Array.toArray_toList (xs := d'), flatK_eq] at hh
    have hl := (List.getElem?_eq_some_iff.1 hj).1
    have := (hh j (by simpa using hl)).1
    rw [getElem!_pos _ j (by simpa using hl)] at this
    simp only [Array.toArray_toList] at this
    rw [this]
    simp at hj ⊢
    rw [List.getElem?_eq_getElem hl] at hj
    simpa using hj
  · refine ⟨Go.Sort.putCells id 0 (Go.Sort.flatK rl 20 d') cur, (0, 0), ?_⟩
    unfold Go.Proofs.sortWorldK
    rw [heap_grow_old _ _ (by rw [Go.Sort.size_putRowK]; exact hb)]
    simp only [Go.Sort.putRowK, Go.Sort.putRow, Go.Sort.mapBlock, Go.Sort.ahead, Array.getElem?_modify, if_true, hg, Option.map_some]
    rfl
  · refine ⟨rfl, rfl, rfl, Go.Proofs.size_sortWorldK_c rl 20 w g 0 n d' os, fun k hk hne => ?_⟩
    unfold Go.Proofs.sortWorldK
    rw [heap_grow_old _ _ (by rw [Go.Sort.size_putRowK]; exact hk)]
    simp only [Go.Sort.putRowK, Go.Sort.putRow, Go.Sort.mapBlock, Go.Sort.ahead, Array.getElem?_modify]
    rw [if_neg (Ne.symm hne)]

theorem sort_at (v : Value) (l : List Rt) (B : Nat) (W w : World) (ho : Own 34 20 rl B w v l) (hl : l.length ≤ 1000000) (hW : Keep W w) (hB : W.heap.size ≤ B) :
    Calls Try.prog 36 #[v, .func (.func 37) #[] #[]] w fun e w' => e = .returned (.tuple #[]) ∧ ∃ l' : List Rt, l'.Perm l ∧ l'.Pairwise (fun a b => cmpP a.to b.to ≤ 0) ∧ Row rl 34 w' v l' ∧ Keep W w' := by
  cases l with
  | nil =>
    obtain ⟨a, cap, rfl, _, _⟩ := (ho.row elR).cells.form
    have h := Go.Proofs.AnyF.slices_SortFunc_none Try.lsort a cap (.func (.func 37) #[] #[]) w
    refine Calls.mono h ?_
    rintro e w' ⟨rfl, rfl⟩
    exact ⟨rfl, [], List.Perm.refl _, List.Pairwise.nil, ho.row elR, hW⟩
  | cons x k =>
    obtain ⟨g, o, cap, hv, hc1, hc2, _⟩ := (ho.row elR).cells.ptr 0 (by simp)
    have hlt := World.ownsRow.lt ho g (by rw [hv]; rfl)
    obtain rfl : o = 0 := by
      rcases ho.2 with ⟨h1, _⟩ | ⟨g', cap', cur, h1, _⟩
      · rw [hv] at h1; cases h1
      · rw [hv] at h1; simp at h1; exact h1.1.2
    subst hv
    obtain ⟨hH, cur, hg⟩ := own_holds ho
    have eg : ∀ args w, (callFunc 37 args).run Try.prog w = .ok (.enter 37 args) w := enters_of Try.func37 (by kernel_rfl) rfl
    have h := Go.Proofs.AnyQ.slices_SortFunc Try.lsort 20 Try.isAgg34 Try.sizeOf34 rl rl_len rl_one cfR swoR 37 #[] g 0 cap (x :: k).toArray w eg (laysR _ _ _ _) hH hlt.2 (by simp only [List.size_toArray]; omega)
    rw [List.size_toArray] at h
    refine Calls.mono h ?_
    rintro e w' ⟨rfl, d', n, os, hp, hs, rfl⟩
    obtain ⟨p1, p2, p3⟩ := hp
    simp only [List.size_toArray] at p1
    obtain ⟨q1, ⟨c, fz, q2⟩, q3⟩ := sortW (n := n) (os := os) hH hg (by simpa using p1)
    have hd : d'.toList.length = (x :: k).length := by rw [Array.length_toList, p1]
    refine ⟨rfl, d'.toList, ?_, ?_, ⟨.inr ⟨g, 0, cap, by rw [hd], by rw [hd]; exact hc1, hc2, block_lt q2, q1⟩, fun g' hg' => ?_⟩, q3.made hW (by omega)⟩
    · have e1 : d'.extract 0 (x :: k).length = d' := by rw [← p1]; simp
      have e2 : (x :: k).toArray.extract 0 (x :: k).length = (x :: k).toArray := by simp
      rw [e1, e2] at p3
      exact p3
    · rw [List.pairwise_iff_getElem]
      intro i j hi hj hij
      have := hs i j (Nat.zero_le _) hij (by rw [← hd]; exact hj)
      rw [getElem!_pos d' j (by simpa using hj), getElem!_pos d' i (by simpa using hi)] at this
      have h7 : ¬ cmpP (d'[j]).to (d'[i]).to < 0 := of_decide_eq_false this
      rw [Array.getElem_toList, Array.getElem_toList, cmp_neg (d'[i]).ok (d'[j]).ok]
      omega
    · simp [Value.ownBlock] at hg'
      subst hg'
      exact ⟨c, fz, q2⟩
end Go.Proofs.Ytgocmolebanflaa
