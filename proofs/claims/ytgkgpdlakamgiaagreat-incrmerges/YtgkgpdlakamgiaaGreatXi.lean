/- Proved: what the library's SortFunc makes of a list of changes. Condition: the list is one's own. -/
import Derived.Test.YtgkgpdlakamgiaaGreatIa
import Derived.Test.YtgkgpdlakamgiaaGreatMs
namespace Go.Proofs.YtgkgpdlakamgiaaGreat
open Go.RowKit
open Go.Sort (size_grow heap_grow_old)

theorem two_ic (w : World) (a b : Ic) : IAt ((w.alloc (.cells (ic a) 59)).alloc (.cells (ic b) 59)) w.heap.size a ∧ IAt ((w.alloc (.cells (ic a) 59)).alloc (.cells (ic b) 59)) (w.heap.size + 1) b ∧ Same w ((w.alloc (.cells (ic a) 59)).alloc (.cells (ic b) 59)) := by
  have hs : (w.alloc (.cells (ic a) 59)).heap.size = w.heap.size + 1 := by simp
  refine ⟨alloc_old (IAt.new w a) _, ?_, ((Same.refl w).alloc _).alloc _⟩
  rw [← hs]
  exact IAt.new _ _
set_option maxRecDepth 100000 in
theorem iorder (a b : Ic) : Gives Tryz.prog 50 #[.agg (ic a), .agg (ic b)] (.int .i64 (cmpP a.route.to b.route.to)) := by
  intro w
  obtain ⟨hA, hB, hS⟩ := two_ic w a b
  have HC := Lib.hid (compare a.route.to b.route.to a.route.ok b.route.ok)
  obtain ⟨n, hn⟩ : ∃ n, n = 18 := ⟨18, rfl⟩
  have hsz : ∀ w, (Go.sizeOf 54).run Tryz.prog w = .ok n w := fun w => by rw [hn]; exact Tryz.sizeOf54 w
  have hn0 : ¬ n = 0 := by omega
  have h1 := hA.to hn
  have h2 := hB.to hn
  have HS := Lib.hid hS
  have HN := Lib.hid hn
  clear hA hB hS hn
  generalize cmpP a.route.to b.route.to = z at *
  generalize pc a.route.to = A at *
  generalize pc b.route.to = B at *
  go_enter Tryz.func50, Tryz.ntmps50
  go_wp2_with fail
  refine (HC.out _).mono ?_
  rintro e w1 ⟨rfl, b1⟩
  go_wp2
  go_ret
  exact ⟨rfl, HS.out.trans b1⟩

theorem flatKI_eq (l : List Ic) : Go.Sort.flatK il 21 l.toArray = (flat il l).toArray := by
  have hl := flat_len il il_len l
  apply Array.ext
  · simp [hl]
  · intro t h1 h2
    simp at h1
    have hj : t / 21 < l.length := by omega
    have hx : l[t / 21]? = some l[t / 21] := List.getElem?_eq_getElem hj
    have hf := flat_get il il_len l (t / 21) _ hx (t % 21) (by omega)
    rw [show t / 21 * 21 + t % 21 = t by omega] at hf
    have h3 : t < (flat il l).length := by rw [hl]; omega
    rw [List.getElem?_eq_getElem h3, List.getElem?_eq_getElem (by rw [il_len]; omega)] at hf
    have hg := Go.Sort.get_flatK il 21 l.toArray t (by simpa using h1)
    rw [getElem!_pos _ t (by simpa using h1)] at hg
    rw [hg]
    simp only [Option.some.injEq] at hf
    rw [List.getElem_toArray, hf]
    have e1 : l.toArray[t / 21]! = l[t / 21] := by rw [getElem!_pos _ _ (by simpa using hj)]; simp
    rw [e1, getElem!_pos _ _ (by rw [il_len]; omega)]

def cfI (a b : Ic) : Int := cmpP a.route.to b.route.to
theorem swoI : Go.Sort.SWO (Go.Proofs.ltOf cfI) where
  irrefl x := by simp [Go.Proofs.ltOf, cfI, (cmp_zero x.route.ok x.route.ok).2 rfl]
  trans x y z h1 h2 := decide_eq_true (cmp_lt_trans x.route.ok y.route.ok z.route.ok (of_decide_eq_true h1) (of_decide_eq_true h2))
  ntrans x y z h1 h2 := by
    have j1 : ¬ cmpP x.route.to y.route.to < 0 := of_decide_eq_false h1
    have j2 : ¬ cmpP y.route.to z.route.to < 0 := of_decide_eq_false h2
    have k1 := cmp_neg x.route.ok y.route.ok
    have k2 := cmp_neg y.route.ok z.route.ok
    have k3 := cmp_neg x.route.ok z.route.ok
    have := cmp_le_trans z.route.ok y.route.ok x.route.ok (by omega) (by omega)
    exact decide_eq_false (show ¬ cmpP x.route.to z.route.to < 0 by omega)
theorem laysI (blk off size : Nat) (w : World) : Go.Proofs.CmpLays Tryz.prog 50 #[] il 21 cfI blk off size w := fun _ _ _ _ x y =>
  (iorder x y _).mono fun _ _ ⟨he, hs⟩ => ⟨he, grow_of_same hs⟩

theorem own_holdsI {B : Nat} {w : World} {g cap : Nat} {l : List Ic} (h : Own 59 21 il B w (.slice (some ⟨g, 0, none⟩) l.length cap) l) : Go.Sort.HoldsK il 21 w g 0 l.toArray ∧ ∃ cur, w.heap[g]? = some (.cells cur 59 (0, 0)) := by
  have hc := World.ownsRow.cells h (g := g) rfl
  rcases h.2 with ⟨h1, _⟩ | ⟨g', cap', cur, h1, _, h3, _⟩
  · cases h1
  · simp at h1
    obtain ⟨rfl, _⟩ := h1
    refine ⟨?_, cur, h3⟩
    unfold Go.Sort.HoldsK
    rw [flatKI_eq]
    intro j hj
    simp at hj
    refine ⟨?_, by simp [World.frozen?, h3]⟩
    have := hc j _ (List.getElem?_eq_getElem hj)
    rw [show (⟨g, 0, none⟩ : Addr).add j = ⟨g, 0 + j, none⟩ from by unfold Addr.add; split <;> simp_all] at this
    rw [this, getElem!_pos _ j (by simpa using hj)]
    simp

theorem sortWI {w : World} {g n : Nat} {d d' : Array Ic} {os : Array Obj} {cur : Array Value} (hH : Go.Sort.HoldsK il 21 w g 0 d) (hg : w.heap[g]? = some (.cells cur 59 (0, 0))) (hs : d'.size = d.size) :
    (∀ j u, (flat il d'.toList)[j]? = some u → (Go.Proofs.sortWorldK il 21 w g 0 n d' os).cell? ⟨g, 0 + j, none⟩ = some u) ∧ (∃ c fz, (Go.Proofs.sortWorldK il 21 w g 0 n d' os).heap[g]? = some (.cells c 59 fz)) ∧ Only g w (Go.Proofs.sortWorldK il 21 w g 0 n d' os) := by
  have hb := block_lt hg
  have hh := Go.Proofs.holdsK_sortWorldK_c il 21 w g 0 d d' n os hH hb hs
  refine ⟨fun j u hj => ?_, ?_, ?_⟩
  · unfold Go.Sort.HoldsK at hh
    rw [← Array.toArray_toList (xs := d'), flatKI_eq] at hh
    have hl := (List.getElem?_eq_some_iff.1 hj).1
    have := (hh j (by simpa using hl)).1
    rw [getElem!_pos _ j (by simpa using hl)] at this
    simp only [Array.toArray_toList] at this
    rw [this]
    simp at hj ⊢
    rw [List.getElem?_eq_getElem hl] at hj
    simpa using hj
  · refine ⟨Go.Sort.putCells id 0 (Go.Sort.flatK il 21 d') cur, (0, 0), ?_⟩
    unfold Go.Proofs.sortWorldK
    rw [heap_grow_old _ _ (by rw [Go.Sort.size_putRowK]; exact hb)]
    simp only [Go.Sort.putRowK, Go.Sort.putRow, Go.Sort.mapBlock, Go.Sort.ahead, Array.getElem?_modify, if_true, hg, Option.map_some]
    rfl
  · refine ⟨rfl, rfl, rfl, Go.Proofs.size_sortWorldK_c il 21 w g 0 n d' os, fun k hk hne => ?_⟩
    unfold Go.Proofs.sortWorldK
    rw [heap_grow_old _ _ (by rw [Go.Sort.size_putRowK]; exact hk)]
    simp only [Go.Sort.putRowK, Go.Sort.putRow, Go.Sort.mapBlock, Go.Sort.ahead, Array.getElem?_modify]
    rw [if_neg (Ne.symm hne)]

theorem isort_at (v : Value) (l : List Ic) (B : Nat) (W w : World) (ho : Own 59 21 il B w v l) (hl : l.length ≤ 1000000) (hW : Keep W w) (hB : W.heap.size ≤ B) :
    Calls Tryz.prog 49 #[v, .func (.func 50) #[] #[]] w fun e w' => e = .returned (.tuple #[]) ∧ ∃ l' : List Ic, l'.Perm l ∧ l'.Pairwise (fun a b => cmpP a.route.to b.route.to ≤ 0) ∧ Row il 59 w' v l' ∧ Keep W w' := by
  cases l with
  | nil =>
    obtain ⟨a, cap, rfl, _, _⟩ := (ho.row elI).cells.form
    have h := Go.Proofs.AnyF.slices_SortFunc_none Tryz.lsortI a cap (.func (.func 50) #[] #[]) w
    refine Calls.mono h ?_
    rintro e w' ⟨rfl, rfl⟩
    exact ⟨rfl, [], List.Perm.refl _, List.Pairwise.nil, ho.row elI, hW⟩
  | cons x k =>
    obtain ⟨g, o, cap, hv, hc1, hc2, _⟩ := (ho.row elI).cells.ptr 0 (by simp)
    have hlt := World.ownsRow.lt ho g (by rw [hv]; rfl)
    obtain rfl : o = 0 := by
      rcases ho.2 with ⟨h1, _⟩ | ⟨g', cap', cur, h1, _⟩
      · rw [hv] at h1; cases h1
      · rw [hv] at h1; simp at h1; exact h1.1.2
    subst hv
    obtain ⟨hH, cur, hg⟩ := own_holdsI ho
    have eg : ∀ args w, (callFunc 50 args).run Tryz.prog w = .ok (.enter 50 args) w := enters_of Tryz.func50 (by kernel_rfl) rfl
    have h := Go.Proofs.AnyQ.slices_SortFunc Tryz.lsortI 21 Tryz.isAgg59 Tryz.sizeOf59 il il_len il_one cfI swoI 50 #[] g 0 cap (x :: k).toArray w eg (laysI _ _ _ _) hH hlt.2 (by simp only [List.size_toArray]; omega)
    rw [List.size_toArray] at h
    refine Calls.mono h ?_
    rintro e w' ⟨rfl, d', n, os, hp, hs, rfl⟩
    obtain ⟨p1, p2, p3⟩ := hp
    simp only [List.size_toArray] at p1
    obtain ⟨q1, ⟨c, fz, q2⟩, q3⟩ := sortWI (n := n) (os := os) hH hg (by simpa using p1)
    have hd : d'.toList.length = (x :: k).length := by rw [Array.length_toList, p1]
    refine ⟨rfl, d'.toList, ?_, ?_, ⟨.inr ⟨g, 0, cap, by rw [hd], by rw [hd]; exact hc1, hc2, block_lt q2, q1⟩, fun g' hg' => ?_⟩, q3.made hW (by omega)⟩
    · have e1 : d'.extract 0 (x :: k).length = d' := by rw [← p1]; simp
      have e2 : (x :: k).toArray.extract 0 (x :: k).length = (x :: k).toArray := by simp
      rw [e1, e2] at p3
      exact p3
    · rw [List.pairwise_iff_getElem]
      intro i j hi hj hij
      have := hs i j (Nat.zero_le _) hij (by rw [← hd]; exact hj)
      rw [getElem!_pos d' j (by simpa using hj), getElem!_pos d' i (by simpa using hi)] at this
      have h7 : ¬ cmpP (d'[j]).route.to (d'[i]).route.to < 0 := of_decide_eq_false this
      rw [Array.getElem_toList, Array.getElem_toList, cmp_neg (d'[i]).route.ok (d'[j]).route.ok]
      omega
    · simp [Value.ownBlock] at hg'
      subst hg'
      exact ⟨c, fz, q2⟩
end Go.Proofs.YtgkgpdlakamgiaaGreat
