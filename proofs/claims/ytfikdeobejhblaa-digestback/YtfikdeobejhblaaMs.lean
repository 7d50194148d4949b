/- Proved: several texts in one: Laid at this program: the facts on its functions and types that the library's contract of slices.SortFunc asks; what the library's SortFunc makes of a list of routes; what table's New answers. Each with its conditions where it stands. -/
import Derived.Shelf.SlSortCmp.WholeK
import Derived.Shelf.SlSortCmp.NoneTotal
import Derived.Shelf.SlGeneric
import Derived.Test.YtfikdeobejhblaaProg
import Derived.Test.YtfikdeobejhblaaMt

/- Laid at this program: the facts on its functions and types that the library's contract of slices.SortFunc asks. No condition of our own. -/
namespace Go.Proofs
open Go.Shelf
def Try.lsort_ren : Go.Shelf.Ren := ⟨fun | 6 => 43 | 15 => 75 | 14 => 74 | 28 => 104 | 29 => 105 | 20 => 96 | 21 => 97 | 22 => 98 | 23 => 99 | 24 => 100 | 25 => 101 | 26 => 102 | 27 => 103 | 46 => 114 | 47 => 115 | 48 => 116 | 49 => 117 | 50 => 118 | 57 => 121 | n => n, fun | 22 => 22 | 24 => 37 | 25 => 82 | 3 => 3 | 39 => 92 | 0 => 0 | 53 => 35 | 55 => 38 | 4 => 4 | 46 => 140 | 45 => 139 | 50 => 96 | 5 => 5 | 9 => 9 | 66 => 151 | 70 => 154 | 76 => 157 | 77 => 158 | n => n, fun | n => n⟩
theorem Try.lsort : Go.Proofs.SlLaysF0.n6 Try.prog Try.lsort_ren := {
  mixed := by kernel_rfl
  f6 := ⟨Try.f43.name, by decide, Try.func43.trans (congrArg some (by kernel_rfl))⟩
  f14 := ⟨Try.f74.name, by decide, Try.func74.trans (congrArg some (by kernel_rfl))⟩
  f15 := Try.func75.trans (congrArg some (by kernel_rfl))
  f20 := ⟨Try.f96.name, by decide, Try.func96.trans (congrArg some (by kernel_rfl))⟩
  f21 := ⟨Try.f97.name, by decide, Try.func97.trans (congrArg some (by kernel_rfl))⟩
  f22 := ⟨Try.f98.name, by decide, Try.func98.trans (congrArg some (by kernel_rfl))⟩
  f23 := ⟨Try.f99.name, by decide, Try.func99.trans (congrArg some (by kernel_rfl))⟩
  f24 := ⟨Try.f100.name, by decide, Try.func100.trans (congrArg some (by kernel_rfl))⟩
  f25 := ⟨Try.f101.name, by decide, Try.func101.trans (congrArg some (by kernel_rfl))⟩
  f26 := ⟨Try.f102.name, by decide, Try.func102.trans (congrArg some (by kernel_rfl))⟩
  f27 := ⟨Try.f103.name, by decide, Try.func103.trans (congrArg some (by kernel_rfl))⟩
  f28 := Try.func104.trans (congrArg some (by kernel_rfl))
  f29 := Try.func105.trans (congrArg some (by kernel_rfl))
  f46 := ⟨Try.f114.name, by decide, Try.func114.trans (congrArg some (by kernel_rfl))⟩
  f47 := Try.func115.trans (congrArg some (by kernel_rfl))
  f48 := Try.func116.trans (congrArg some (by kernel_rfl))
  f49 := ⟨Try.f117.name, by decide, Try.func117.trans (congrArg some (by kernel_rfl))⟩
  f50 := ⟨Try.f118.name, by decide, Try.func118.trans (congrArg some (by kernel_rfl))⟩
  f57 := ⟨Try.f121.name, by decide, Try.func121.trans (congrArg some (by kernel_rfl))⟩
  t0 := Try.underlying0
  a0 := Try.isAgg0
  z0 := Try.sizeOf0
  v0 := Try.zeroValue0
  t3 := Try.underlying3
  a3 := Try.isAgg3
  z3 := Try.sizeOf3
  v3 := Try.zeroValue3
  t4 := Try.underlying4
  a4 := Try.isAgg4
  z4 := Try.sizeOf4
  v4 := Try.zeroValue4
  t5 := Try.underlying5
  a5 := Try.isAgg5
  z5 := Try.sizeOf5
  v5 := Try.zeroValue5
  t9 := Try.underlying9
  a9 := Try.isAgg9
  z9 := Try.sizeOf9
  v9 := Try.zeroValue9
  t22 := Try.underlying22
  a22 := Try.isAgg22
  z22 := Try.sizeOf22
  v22 := Try.zeroValue22
  t25 := Try.underlying82
  a25 := Try.isAgg82
  z25 := Try.sizeOf82
  v25 := Try.zeroValue82
  t39 := Try.underlying92
  a39 := Try.isAgg92
  z39 := Try.sizeOf92
  v39 := Try.zeroValue92
  t45 := Try.underlying139
  a45 := Try.isAgg139
  z45 := Try.sizeOf139
  v45 := Try.zeroValue139
  t46 := Try.underlying140
  a46 := Try.isAgg140
  z46 := Try.sizeOf140
  v46 := Try.zeroValue140
  t50 := Try.underlying96
  a50 := Try.isAgg96
  z50 := Try.sizeOf96
  v50 := Try.zeroValue96
  t53 := Try.underlying35
  a53 := Try.isAgg35
  z53 := Try.sizeOf35
  v53 := Try.zeroValue35
  t55 := Try.underlying38
  a55 := Try.isAgg38
  z55 := Try.sizeOf38
  v55 := Try.zeroValue38
  t66 := Try.underlying151
  a66 := Try.isAgg151
  z66 := Try.sizeOf151
  v66 := Try.zeroValue151
  t70 := Try.underlying154
  a70 := Try.isAgg154
  z70 := Try.sizeOf154
  v70 := Try.zeroValue154
  t76 := Try.underlying157
  a76 := Try.isAgg157
  z76 := Try.sizeOf157
  v76 := Try.zeroValue157
  t77 := Try.underlying158
  a77 := Try.isAgg158
  z77 := Try.sizeOf158
  v77 := Try.zeroValue158 }
end Go.Proofs

/- Proved: what the library's SortFunc makes of a list of routes. Condition: the list is one's own. -/
namespace Go.Proofs.Ytfikdeobejhblaa
open Go.RowKit
open Go.Sort (size_grow heap_grow_old)

theorem grow_of_same {w w' : World} (h : Same w w') : ∃ q os, w' = Go.Sort.grow (w.drewN q) os := by
  refine ⟨w'.drawn - w.drawn, w'.heap.extract w.heap.size w'.heap.size, ?_⟩
  have h1 : w'.heap = w.heap ++ w'.heap.extract w.heap.size w'.heap.size := by
    apply Array.ext_getElem?
    intro i
    rw [Array.getElem?_append]
    split
    · rename_i hi
      exact h.block i hi
    · rename_i hi
      rw [Array.getElem?_extract]
      have := h.size
      split
      · rename_i h2
        congr 1
        omega
      · rename_i h2
        rw [Array.getElem?_eq_none (by omega)]
  have h2 : w.drawn + (w'.drawn - w.drawn) = w'.drawn := by have := h.drawn; omega
  obtain ⟨hp, tp, dr, os, out⟩ := w'
  simp only [Go.Sort.grow, World.drewN]
  have a1 := h.os
  have a2 := h.tape
  have a3 := h.output
  simp only at h1 h2 a1 a2 a3
  rw [a1, a2, a3, h2, ← h1]
theorem same_grow {w : World} {q : Nat} {os : Array Obj} : Keep w (Go.Sort.grow (w.drewN q) os) :=
  ⟨rfl, rfl, rfl, by rw [size_grow]; exact Nat.le_add_right _ _, fun k hk => heap_grow_old _ _ hk⟩

theorem flatK_eq (l : List Rt) : Go.Sort.flatK rl 20 l.toArray = (flat rl l).toArray := by
  have hl := flat_len rl rl_len l
  apply Array.ext
  · simp [hl]
  · intro t h1 h2
    simp at h1
    have hj : t / 20 < l.length := by omega
    have hx : l[t / 20]? = some l[t / 20] := List.getElem?_eq_getElem hj
    have hf := flat_get rl rl_len l (t / 20) _ hx (t % 20) (by omega)
    rw [show t / 20 * 20 + t % 20 = t by omega] at hf
    have h3 : t < (flat rl l).length := by rw [hl]; omega
    rw [List.getElem?_eq_getElem h3, List.getElem?_eq_getElem (by rw [rl_len]; omega)] at hf
    have hg := Go.Sort.get_flatK rl 20 l.toArray t (by simpa using h1)
    rw [getElem!_pos _ t (by simpa using h1)] at hg
    rw [hg]
    simp only [Option.some.injEq] at hf
    rw [List.getElem_toArray, hf]
    have e1 : l.toArray[t / 20]! = l[t / 20] := by rw [getElem!_pos _ _ (by simpa using hj)]; simp
    rw [e1, getElem!_pos _ _ (by rw [rl_len]; omega)]

def cfR (a b : Rt) : Int := cmpP a.to b.to
theorem swoR : Go.Sort.SWO (Go.Proofs.ltOf cfR) where
  irrefl x := by simp [Go.Proofs.ltOf, cfR, (cmp_zero x.ok x.ok).2 rfl]
  trans x y z h1 h2 := decide_eq_true (cmp_lt_trans x.ok y.ok z.ok (of_decide_eq_true h1) (of_decide_eq_true h2))
  ntrans x y z h1 h2 := by
    have j1 : ¬ cmpP x.to y.to < 0 := of_decide_eq_false h1
    have j2 : ¬ cmpP y.to z.to < 0 := of_decide_eq_false h2
    have k1 := cmp_neg x.ok y.ok
    have k2 := cmp_neg y.ok z.ok
    have k3 := cmp_neg x.ok z.ok
    have := cmp_le_trans z.ok y.ok x.ok (by omega) (by omega)
    exact decide_eq_false (show ¬ cmpP x.to z.to < 0 by omega)
theorem laysR (blk off size : Nat) (w : World) : Go.Proofs.CmpLays Try.prog 44 #[] rl 20 cfR blk off size w := fun _ _ _ _ x y =>
  (order x y _).mono fun _ _ ⟨he, hs⟩ => ⟨he, grow_of_same hs⟩

theorem own_holds {B : Nat} {w : World} {g cap : Nat} {l : List Rt} (h : Own 37 20 rl B w (.slice (some ⟨g, 0, none⟩) l.length cap) l) : Go.Sort.HoldsK rl 20 w g 0 l.toArray ∧ ∃ cur, w.heap[g]? = some (.cells cur 37 (0, 0)) := by
  have hc := World.ownsRow.cells h (g := g) rfl
  rcases h.2 with ⟨h1, _⟩ | ⟨g', cap', cur, h1, _, h3, _⟩
  · cases h1
  · simp at h1
    obtain ⟨rfl, _⟩ := h1
    refine ⟨?_, cur, h3⟩
    unfold Go.Sort.HoldsK
    rw [flatK_eq]
    intro j hj
    simp at hj
    refine ⟨?_, by simp [World.frozen?, h3]⟩
    have := hc j _ (List.getElem?_eq_getElem hj)
    rw [show (⟨g, 0, none⟩ : Addr).add j = ⟨g, 0 + j, none⟩ from by unfold Addr.add; split <;> simp_all] at this
    rw [this, getElem!_pos _ j (by simpa using hj)]
    simp

theorem sortW {w : World} {g n : Nat} {d d' : Array Rt} {os : Array Obj} {cur : Array Value} (hH : Go.Sort.HoldsK rl 20 w g 0 d) (hg : w.heap[g]? = some (.cells cur 37 (0, 0))) (hs : d'.size = d.size) :
    (∀ j u, (flat rl d'.toList)[j]? = some u → (Go.Proofs.sortWorldK rl 20 w g 0 n d' os).cell? ⟨g, 0 + j, none⟩ = some u) ∧ (∃ c fz, (Go.Proofs.sortWorldK rl 20 w g 0 n d' os).heap[g]? = some (.cells c 37 fz)) ∧ Only g w (Go.Proofs.sortWorldK rl 20 w g 0 n d' os) := by
  have hb := block_lt hg
  have hh := Go.Proofs.holdsK_sortWorldK_c rl 20 w g 0 d d' n os hH hb hs
  refine ⟨fun j u hj => ?_, ?_, ?_⟩
  · unfold Go.Sort.HoldsK at hh
    rw [← Array.toArray_toList (xs := d'), flatK_eq] at hh
    have hl := (List.getElem?_eq_some_iff.1 hj).1
    have := (hh j (by simpa using hl)).1
    rw [getElem!_pos _ j (by simpa using hl)] at this
    simp only [Array.toArray_toList] at this
    rw [this]
    simp at hj ⊢
    rw [List.getElem?_eq_getElem hl] at hj
    simpa using hj
  · refine ⟨Go.Sort.putCells id 0 (Go.Sort.flatK rl 20 d') cur, (0, 0), ?_⟩
    unfold Go.Proofs.sortWorldK
    rw [heap_grow_old _ _ (by rw [Go.Sort.size_putRowK]; exact hb)]
    simp only [Go.Sort.putRowK, Go.Sort.putRow, Go.Sort.mapBlock, Go.Sort.ahead, Array.getElem?_modify, if_true, hg, Option.map_some]
    rfl
  · refine ⟨rfl, rfl, rfl, Go.Proofs.size_sortWorldK_c rl 20 w g 0 n d' os, fun k hk hne => ?_⟩
    unfold Go.Proofs.sortWorldK
    rw [heap_grow_old _ _ (by rw [Go.Sort.size_putRowK]; exact hk)]
    simp only [Go.Sort.putRowK, Go.Sort.putRow, Go.Sort.mapBlock, Go.Sort.ahead, Array.getElem?_modify]
    rw [if_neg (Ne.symm hne)]

theorem sort_at (v : Value) (l : List Rt) (B : Nat) (W w : World) (ho : Own 37 20 rl B w v l) (hl : l.length ≤ 1000000) (hW : Keep W w) (hB : W.heap.size ≤ B) :
    Calls Try.prog 43 #[v, .func (.func 44) #[] #[]] w fun e w' => e = .returned (.tuple #[]) ∧ ∃ l' : List Rt, l'.Perm l ∧ l'.Pairwise (fun a b => cmpP a.to b.to ≤ 0) ∧ Row rl 37 w' v l' ∧ Keep W w' := by
  cases l with
  | nil =>
    obtain ⟨a, cap, rfl, _, _⟩ := (ho.row elR).cells.form
    have h := Go.Proofs.AnyF.slices_SortFunc_none Try.lsort a cap (.func (.func 44) #[] #[]) w
    refine Calls.mono h ?_
    rintro e w' ⟨rfl, rfl⟩
    exact ⟨rfl, [], List.Perm.refl _, List.Pairwise.nil, ho.row elR, hW⟩
  | cons x k =>
    obtain ⟨g, o, cap, hv, hc1, hc2, _⟩ := (ho.row elR).cells.ptr 0 (by simp)
    have hlt := World.ownsRow.lt ho g (by rw [hv]; rfl)
    obtain rfl : o = 0 := by
      rcases ho.2 with ⟨h1, _⟩ | ⟨g', cap', cur, h1, _⟩
      · rw [hv] at h1; cases h1
      · rw [hv] at h1; simp at h1; exact h1.1.2
    subst hv
    obtain ⟨hH, cur, hg⟩ := own_holds ho
    have eg : ∀ args w, (callFunc 44 args).run Try.prog w = .ok (.enter 44 args) w := enters_of Try.func44 (by kernel_rfl) rfl
    have h := Go.Proofs.AnyQ.slices_SortFunc Try.lsort 20 Try.isAgg37 Try.sizeOf37 rl rl_len rl_one cfR swoR 44 #[] g 0 cap (x :: k).toArray w eg (laysR _ _ _ _) hH hlt.2 (by simp only [List.size_toArray]; omega)
    rw [List.size_toArray] at h
    refine Calls.mono h ?_
    rintro e w' ⟨rfl, d', n, os, hp, hs, rfl⟩
    obtain ⟨p1, p2, p3⟩ := hp
    simp only [List.size_toArray] at p1
    obtain ⟨q1, ⟨c, fz, q2⟩, q3⟩ := sortW (n := n) (os := os) hH hg (by simpa using p1)
    have hd : d'.toList.length = (x :: k).length := by rw [Array.length_toList, p1]
    refine ⟨rfl, d'.toList, ?_, ?_, ⟨.inr ⟨g, 0, cap, by rw [hd], by rw [hd]; exact hc1, hc2, block_lt q2, q1⟩, fun g' hg' => ?_⟩, q3.made hW (by omega)⟩
    · have e1 : d'.extract 0 (x :: k).length = d' := by rw [← p1]; simp
      have e2 : (x :: k).toArray.extract 0 (x :: k).length = (x :: k).toArray := by simp
      rw [e1, e2] at p3
      exact p3
    · rw [List.pairwise_iff_getElem]
      intro i j hi hj hij
      have := hs i j (Nat.zero_le _) hij (by rw [← hd]; exact hj)
      rw [getElem!_pos d' j (by simpa using hj), getElem!_pos d' i (by simpa using hi)] at this
      have h7 : ¬ cmpP (d'[j]).to (d'[i]).to < 0 := of_decide_eq_false this
      rw [Array.getElem_toList, Array.getElem_toList, cmp_neg (d'[i]).ok (d'[j]).ok]
      omega
    · simp [Value.ownBlock] at hg'
      subst hg'
      exact ⟨c, fz, q2⟩
end Go.Proofs.Ytfikdeobejhblaa

/- Proved: what table's New answers. Condition: the list is short enough for memory. -/
namespace Go.Proofs.Ytfikdeobejhblaa
open Go.RowKit

def newE (l : List Rt) : Int := if (∀ r ∈ l, rightR r) then (if (l.map (·.to)).Nodup then (if l.length ≤ 300 then 0 else 7) else 9) else 1

theorem sorted_of {l : List Rt} (h : l.Pairwise (fun a b => cmpP a.to b.to ≤ 0)) (hd : (l.map (·.to)).Nodup) : Sorted l := by
  have h2 : l.Pairwise (fun a b => a.to ≠ b.to) := List.pairwise_map.1 hd
  refine (List.pairwise_and_iff.2 ⟨h, h2⟩).imp ?_
  intro a b ⟨h3, h4⟩
  have : cmpP a.to b.to ≠ 0 := fun e => h4 ((cmp_zero a.ok b.ok).1 e)
  omega
theorem nodup_of {l : List Rt} (h : Sorted l) : (l.map (·.to)).Nodup := by
  refine List.pairwise_map.2 (h.imp ?_)
  intro a b h1 h2
  rw [(cmp_zero a.ok b.ok).2 h2] at h1
  omega
/-- In order, and no two beside each other to one prefix. -/
theorem nodup_near {l : List Rt} (h : l.Pairwise (fun a b => cmpP a.to b.to ≤ 0)) (hn : ∀ i x y, l[i]? = some x → l[i + 1]? = some y → x.to ≠ y.to) : (l.map (·.to)).Nodup := by
  induction l with
  | nil => simp
  | cons a l ih =>
    obtain ⟨h1, h2⟩ := List.pairwise_cons.1 h
    have ih' := ih h2 (fun i x y hx hy => hn (i + 1) x y (by simpa using hx) (by simpa using hy))
    rw [List.map_cons, List.nodup_cons]
    refine ⟨fun hm => ?_, ih'⟩
    obtain ⟨b, hb, he⟩ := List.mem_map.1 hm
    cases l with
    | nil => simp at hb
    | cons c l =>
      have hac : cmpP a.to c.to ≤ 0 := h1 c (by simp)
      have hne : a.to ≠ c.to := hn 0 a c rfl rfl
      rcases List.mem_cons.1 hb with rfl | hb
      · exact hne he.symm
      · have hcb : cmpP c.to b.to ≤ 0 := (List.pairwise_cons.1 h2).1 b hb
        rw [he, cmp_neg c.ok a.ok] at hcb
        exact hne ((cmp_zero a.ok c.ok).1 (by omega))
theorem sorted_unique {a b : List Rt} (ha : Sorted a) (hb : Sorted b) (hp : a.Perm b) : a = b := by
  induction a generalizing b with
  | nil => exact (List.nil_perm.1 hp).symm
  | cons x a ih =>
    cases b with
    | nil => exact List.perm_nil.1 hp
    | cons y b =>
      have hx : x ∈ y :: b := hp.mem_iff.1 (by simp)
      have hy : y ∈ x :: a := hp.mem_iff.2 (by simp)
      have e : x = y := by
        rcases List.mem_cons.1 hx with h | h
        · exact h
        · rcases List.mem_cons.1 hy with h2 | h2
          · exact h2.symm
          · have k1 := ha.head y h2
            have k2 := hb.head x h
            rw [cmp_neg y.ok x.ok] at k2
            omega
      subst e
      rw [ih ha.tail hb.tail (List.perm_cons x |>.1 hp)]

def NwRel (W : World) (l : List Rt) (i : Value) (wr : World) : Prop := ∃ k : Nat, i = .int .i64 k ∧ k ≤ l.length ∧ (∀ r ∈ l.take k, rightR r) ∧ Keep W wr
def Nw2Rel (W : World) (l : List Rt) (i : Value) (wr : World) : Prop := ∃ j : Nat, i = .int .i64 ((j : Int) + 1) ∧ j ≤ l.length ∧ (∀ k x y, k < j → l[k]? = some x → l[k + 1]? = some y → x.to ≠ y.to) ∧ Keep W wr
def NewPost (w : World) (l : List Rt) (e : Ending) (w' : World) : Prop :=
  ∃ p, e = .returned (.tuple #[p, .int .i64 (newE l)]) ∧ Keep w w' ∧ ((newE l ≠ 0 ∧ p = .pointer none) ∨ (newE l = 0 ∧ ∃ b l', p = .pointer (some ⟨b, 0, none⟩) ∧ w.heap.size ≤ b ∧ l'.Perm l ∧ Tb w' b l'))

set_option maxRecDepth 100000 in
set_option maxHeartbeats 2000000 in
theorem new (v : Value) (l : List Rt) (w : World) (h : Cells rl w v l) (hl : l.length ≤ 1000000) : Calls Try.prog 11 #[v] w (NewPost w l) := by
  obtain ⟨a, cap, rfl, hc1, hc2⟩ := h.form
  obtain ⟨hz, hi⟩ := zero_of_info info34b
  obtain ⟨n, hn⟩ : ∃ n, n = 20 := ⟨20, rfl⟩
  have hsz : ∀ w, (Go.sizeOf 37).run Try.prog w = .ok n w := fun w => by rw [hn]; exact Try.sizeOf37 w
  have hn0 : ¬ n = 0 := by omega
  obtain ⟨n2, hn2⟩ : ∃ n, n = 18 := ⟨18, rfl⟩
  have hsz2 : ∀ w, (Go.sizeOf 34).run Try.prog w = .ok n2 w := fun w => by rw [hn2]; exact Try.sizeOf34 w
  have hn20 : ¬ n2 = 0 := by omega
  have hzs : (rc zeroR).size = n := by rw [hn]; exact rc_size _
  have HN := Lib.hid hn
  have HN2 := Lib.hid hn2
  have H := Lib.hid h
  obtain ⟨L, hL⟩ : ∃ n, l.length = n := ⟨_, rfl⟩
  have HL := Lib.hid hL
  rw [hL] at H hc1 hl ⊢
  clear h hn hn2 hi hL
  go_enter Try.func11, Try.ntmps11
  go_wp2
  go_loopw [10] (fun i wr => NwRel w l i wr) (fun i _ => L - (intOf i).toNat)
  case atStart => exact ⟨0, rfl, Nat.zero_le _, by simp, Keep.refl _⟩
  case round =>
    obtain ⟨k, rfl, hk, hr, hkp⟩ := hrel
    rw [HL.out] at hk
    by_cases hlt : k < L
    · obtain ⟨g, o, cap', e, _, _, _⟩ := (show Cells rl w (.slice a l.length cap) l from by rw [HL.out]; exact H.out).ptr k (by rw [HL.out]; exact hlt)
      rw [HL.out] at e
      simp at e
      obtain ⟨rfl, rfl⟩ := e
      obtain ⟨x, hx⟩ : ∃ x, l[k]? = some x := ⟨_, List.getElem?_eq_getElem (by rw [HL.out]; exact hlt)⟩
      have hcl : Cells rl wr (.slice (some ⟨g, o, none⟩) l.length cap) l := by rw [HL.out]; exact H.out.keep hkp
      have d1 := (hcl.keep ((Keep.refl wr))).rt HN.out k x hx
      have hA := RAt.new wr zeroR
      have hst := hA.store x
      have hl3 := (hA.put x).whole HN.out
      have HRR := Lib.hid (rightT x).keep
      have HK3 := Lib.hid (show Keep w ((wr.alloc (.cells (rc zeroR) 37)).setRow wr.heap.size (rc x)) from (hkp.alloc _).setRow _ _ hkp.size)
      have hzx : (rc x).size = n := by rw [HN.out]; exact rc_size _
      have HX := Lib.hid hx
      have HR := Lib.hid hr
      clear hcl hA hx hr hkp
      by_cases hrx : rightR x
      · rw [decide_eq_true hrx] at HRR
        have HRX := Lib.hid hrx
        clear hrx
        generalize rc x = X at *
        generalize (wr.alloc (.cells (rc zeroR) 37)).setRow wr.heap.size X = w3 at *
        go_wp2_with fail
        refine (HRR.out _).mono ?_
        rintro e w4 ⟨rfl, b4⟩
        go_wp2
        go_roundw
        case rel => exact ⟨k + 1, by go_num, by rw [HL.out]; omega, fun r hr => by
          rw [List.take_add_one, HX.out] at hr
          rcases List.mem_append.1 hr with h | h
          · exact HR.out r h
          · simp at h; rw [h]; exact HRX.out, HK3.out.trans b4⟩
        case measure => simp [intOf]; omega
      · rw [decide_eq_false hrx] at HRR
        have HE : Hid (newE l = 1) := by
          show newE l = 1
          unfold newE
          rw [if_neg (fun h => hrx (h x (List.mem_of_getElem? HX.out)))]
        clear hrx
        generalize rc x = X at *
        generalize (wr.alloc (.cells (rc zeroR) 37)).setRow wr.heap.size X = w3 at *
        go_wp2_with fail
        refine (HRR.out _).mono ?_
        rintro e w4 ⟨rfl, b4⟩
        go_wp2
        go_ret2
        exact ⟨.pointer none, by rw [HE.out]; rfl, HK3.out.trans b4, .inl ⟨by rw [HE.out]; decide, rfl⟩⟩
    · have hall : ∀ r ∈ l, rightR r := fun r hm => hr r (by rw [List.take_of_length_le (by rw [HL.out]; omega)]; exact hm)
      have HALL := Lib.hid hall
      have HC := Lib.hid (clone _ l wr (show Cells rl wr (.slice a L cap) l from H.out.keep hkp) (by rw [HL.out]; exact hl))
      have HK := Lib.hid hkp
      clear hr hall hkp hz hzs
      go_wp2_with fail
      refine HC.out.mono ?_
      rintro e w1 ⟨v1, rfl, o1, b1⟩
      have HS := Lib.hid (sort_at v1 l wr.heap.size wr w1 o1 (by rw [HL.out]; exact hl) b1 (Nat.le_refl _))
      obtain ⟨a1, c1, e1, _, _⟩ := (o1.row elR).cells.form
      rw [HL.out] at e1
      subst e1
      clear o1 b1 HC
      go_wp2_with fail
      refine HS.out.mono ?_
      rintro e w2 ⟨rfl, l', hp, hs, hrow, hk2⟩
      have HP := Lib.hid hp
      have HSO := Lib.hid hs
      have HRW := Lib.hid hrow
      have HK2 := Lib.hid (HK.out.trans hk2)
      have HL' := Lib.hid (show l'.length = L from by rw [hp.length_eq, HL.out])
      clear hp hs hrow hk2 HS
      go_wp2
      go_loopw [7] (fun i wr => Nw2Rel w2 l' i wr) (fun i _ => L - (intOf i).toNat)
      case atStart => exact ⟨0, rfl, Nat.zero_le _, fun k x y hk => by omega, Keep.refl _⟩
      case round =>
        obtain ⟨j, rfl, hj, hd, hkp⟩ := hrel
        rw [HL'.out] at hj
        by_cases hlt : j + 1 < L
        · obtain ⟨g, o, cap', e, _, _, _⟩ := (show Cells rl w2 (.slice a1 l'.length c1) l' from by rw [HL'.out]; exact HRW.out.cells).ptr j (by rw [HL'.out]; omega)
          rw [HL'.out] at e
          simp at e
          obtain ⟨rfl, rfl⟩ := e
          obtain ⟨x, hx⟩ : ∃ x, l'[j]? = some x := ⟨_, List.getElem?_eq_getElem (by rw [HL'.out]; omega)⟩
          obtain ⟨y, hy⟩ : ∃ y, l'[j + 1]? = some y := ⟨_, List.getElem?_eq_getElem (by rw [HL'.out]; exact hlt)⟩
          have hcl : Cells rl w2 (.slice (some ⟨g, o, none⟩) l'.length c1) l' := by rw [HL'.out]; exact HRW.out.cells
          have d1 : ∀ u : KW wr, (loadCellsFrom ⟨g, o + j * n, none⟩ 0 n2 #[]).run Try.prog u.1 = .ok (pc x.to) u.1 := fun u => (hcl.keep (hkp.trans u.2)).to HN2.out HN.out j x hx
          have d2 : ∀ u : KW wr, (loadCellsFrom ⟨g, o + (j + 1) * n, none⟩ 0 n2 #[]).run Try.prog u.1 = .ok (pc y.to) u.1 := fun u => (hcl.keep (hkp.trans u.2)).to HN2.out HN.out (j + 1) y hy
          have heq : ∀ w, (Op.equalIn 10000 34 (.agg (pc x.to)) (.agg (pc y.to))).run Try.prog w = .ok (decide (x.to = y.to)) w := fun w => eq_pcd 9996 x.to y.to x.ok y.ok w
          have hltI : (j : Int) + 1 < L := by omega
          have hjL : j < L := by omega
          have HX := Lib.hid hx
          have HY := Lib.hid hy
          have HD := Lib.hid hd
          have HKP := Lib.hid hkp
          clear hcl hx hy hd hkp
          by_cases hxy : x.to = y.to
          · simp only [decide_eq_true hxy] at heq
            have HE : Hid (newE l = 9) := by
              show newE l = 9
              unfold newE
              rw [if_pos HALL.out, if_neg]
              intro hnd
              have hnd2 : (l'.map (·.to)).Nodup := (HP.out.map _).nodup_iff.2 hnd
              have hpw := List.pairwise_iff_getElem.1 (List.pairwise_map.1 hnd2)
              obtain ⟨h1, e1⟩ := List.getElem?_eq_some_iff.1 HX.out
              obtain ⟨h2, e2⟩ := List.getElem?_eq_some_iff.1 HY.out
              have := hpw j (j + 1) h1 h2 (by omega)
              rw [e1, e2] at this
              exact this hxy
            clear hxy
            generalize pc x.to = X at *
            generalize pc y.to = Y at *
            go_wp2_with fail
            refine wp_region_keep (Keep.refl _) (by kernel_rfl) (by kernel_rfl) ?_
            repeat (first | go_big_quiet_step (fail) | quiet_step (fail))
            refine wpQuiet_nil ?_
            rintro w6 ⟨⟨w7, b7⟩, rfl⟩
            have HK7 := Lib.hid ((HK2.out.trans HKP.out).trans b7)
            clear b7 d1 d2 heq HKP
            go_wp2
            go_ret2
            exact ⟨.pointer none, by rw [HE.out]; rfl, HK7.out, .inl ⟨by rw [HE.out]; decide, rfl⟩⟩
          · simp only [decide_eq_false hxy] at heq
            have HXY := Lib.hid hxy
            clear hxy
            generalize pc x.to = X at *
            generalize pc y.to = Y at *
            go_wp2_with fail
            refine wp_region_keep (Keep.refl _) (by kernel_rfl) (by kernel_rfl) ?_
            repeat (first | go_big_quiet_step (fail) | quiet_step (fail))
            refine wpQuiet_nil ?_
            rintro w6 ⟨⟨w7, b7⟩, rfl⟩
            have HK7 := Lib.hid (HKP.out.trans b7)
            clear b7 d1 d2 heq HKP
            go_wp2
            go_roundw
            case rel => exact ⟨j + 1, by go_num, by rw [HL'.out]; omega, fun k x' y' hk hx' hy' => by
              rcases Nat.lt_or_ge k j with h | h
              · exact HD.out k x' y' h hx' hy'
              · obtain rfl : k = j := by omega
                rw [HX.out] at hx'
                rw [HY.out] at hy'
                simp at hx' hy'
                rw [← hx', ← hy']
                exact HXY.out, HK7.out⟩
            case measure => simp [intOf]; omega
        · have hnd : (l'.map (·.to)).Nodup := nodup_near HSO.out (fun i x y hx hy => hd i x y (by
            have := (List.getElem?_eq_some_iff.1 hy).1
            rw [HL'.out] at this
            omega) hx hy)
          have HND := Lib.hid ((HP.out.map (·.to)).nodup_iff.1 hnd)
          have HSRT := Lib.hid (sorted_of HSO.out hnd)
          have HKP := Lib.hid hkp
          have hltI : ¬ ((j : Int) + 1 < L) := by omega
          clear hd hnd hkp
          by_cases hbig : L ≤ 300
          · have HE : Hid (newE l = 0) := by
              show newE l = 0
              unfold newE
              rw [if_pos HALL.out, if_pos HND.out, if_pos (by rw [HL.out]; exact hbig)]
            have hb2 : ¬ ((L : Int) > 300) := by omega
            have HT := Lib.hid (show Tb (wr.alloc (.cells #[.slice a1 L c1] 84)) wr.heap.size l' from ⟨⟨_, heap_alloc_last wr _, HRW.out.keep (HKP.out.alloc _)⟩, HSRT.out, by rw [HL'.out]; exact hbig⟩)
            have HK9 := Lib.hid (show Keep w (wr.alloc (.cells #[.slice a1 L c1] 84)) from (HK2.out.trans HKP.out).alloc _)
            have hge : w.heap.size ≤ wr.heap.size := (HK2.out.trans HKP.out).size
            clear HKP
            go_wp2
            go_ret2
            exact ⟨.pointer (some ⟨wr.heap.size, 0, none⟩), by rw [HE.out]; rfl, HK9.out, .inr ⟨HE.out, _, l', rfl, hge, HP.out, HT.out⟩⟩
          · have HE : Hid (newE l = 7) := by
              show newE l = 7
              unfold newE
              rw [if_pos HALL.out, if_pos HND.out, if_neg (by rw [HL.out]; exact hbig)]
            have hb2 : (L : Int) > 300 := by omega
            go_wp2
            go_ret2
            exact ⟨.pointer none, by rw [HE.out]; rfl, HK2.out.trans HKP.out, .inl ⟨by rw [HE.out]; decide, rfl⟩⟩
end Go.Proofs.Ytfikdeobejhblaa
