/- Proved: what incr's Merge answers. Condition: both lists lie in memory, and are short enough for it. -/
import Derived.Test.YtgkgpdlakamgiaaGreatIj
namespace Go.Proofs.YtgkgpdlakamgiaaGreat
open Go.RowKit
open Go.ChangeMaps (setBlock)

/-! ### Plainly -/
theorem range_get {α : Type} (W : List α) : (List.range W.length).filterMap (fun j => W[j]?) = W := by
  have h : ∀ n, n ≤ W.length → (List.range n).filterMap (fun j => W[j]?) = W.take n := by
    intro n
    induction n with
    | zero => intro _; simp
    | succ n ih =>
      intro hn
      rw [List.range_succ, List.filterMap_append, ih (by omega), List.take_add_one, List.getElem?_eq_getElem (by omega)]
      simp [List.getElem?_eq_getElem (show n < W.length by omega)]
  rw [h W.length (Nat.le_refl _), List.take_length]
def effJ (W : List Sy) (j : Nat) : Option Ic := (W[j]?).bind effS
theorem range_eff (W : List Sy) : (List.range W.length).filterMap (effJ W) = W.filterMap effS := by
  conv => rhs; rw [← range_get W]
  rw [List.filterMap_filterMap]
  rfl
theorem eff_ne {W : List Sy} (hk : Keys W) : (W.filterMap effS).Pairwise fun a b => a.route.to ≠ b.route.to := by
  rw [List.pairwise_filterMap]
  refine hk.imp ?_
  intro a b hab x hx y hy
  rw [effS_to hx, effS_to hy]
  exact hab
theorem isMg_of {W : List Sy} (hk : Keys W) {l m : List Ic} (hl : l.Perm (W.filterMap effS)) (hm : m.Perm l) (hs : m.Pairwise fun a b => cmpP a.route.to b.route.to ≤ 0) : IsMg W m := by
  have hp := hm.trans hl
  refine ⟨?_, hp⟩
  have hne : m.Pairwise fun a b => a.route.to ≠ b.route.to := (hp.pairwise_iff (fun {x y} (h : x.route.to ≠ y.route.to) => fun e => h e.symm)).2 (eff_ne hk)
  refine (List.pairwise_and_iff.2 ⟨hs, hne⟩).imp ?_
  intro a b ⟨h3, h4⟩
  have : cmpP a.route.to b.route.to ≠ 0 := fun e => h4 ((cmp_zero a.route.ok b.route.ok).1 e)
  omega

/-! ### The iterator -/
def seenN (r : Nat) (w : World) : Nat := match w.heap[r]? with
  | some (.mapIter _ _ seen _) => seen.size
  | _ => 0
theorem only_block (w w1 : World) (h : w1 = w ∨ w1 = w.drew) (r : Nat) (o : Obj) : Only r w (setBlock w1 r o) := by
  rcases h with rfl | rfl
  · exact Only.setObj (b := r) _ _
  · exact (show Only r w w.drew from ⟨rfl, rfl, rfl, Nat.le_refl _, fun _ _ _ => rfl⟩).trans (Only.setObj (b := r) w.drew o)
theorem block_block (w w1 : World) (h : w1 = w ∨ w1 = w.drew) (r : Nat) (hr : r < w.heap.size) (o : Obj) : (setBlock w1 r o).heap[r]? = some o := by
  rcases h with rfl | rfl <;> simp [setBlock, hr]
structure MrRel (w : World) (bm r : Nat) (W : List Sy) (es : Array MapEntry) (lv : Value) (wr : World) (seen : Array Nat) (left : List Nat) : Prop where
  iter : wr.heap[r]? = some (.mapIter (some bm) W.length seen W.length)
  map : MapS wr bm W es
  perm : (seen.toList ++ left).Perm (List.range W.length)
  own : Own 59 21 il (r + 1) wr lv (seen.toList.filterMap (effJ W))
  keep : Keep w wr
theorem entry_at {w : World} {bm : Nat} {W : List Sy} {es : Array MapEntry} (h : MapS w bm W es) {e : MapEntry} (he : e ∈ es.toList) : ∃ (j : Nat) (s : Sy), e.born = j ∧ j < W.length ∧ W[j]? = some s ∧ e.val = .agg (sc s) := by
  obtain ⟨j, hj, rfl⟩ := List.mem_iff_getElem.1 he
  have hlen : es.toList.length = W.length := by
    have := congrArg List.length h.vals
    simpa using this
  have hjW : j < W.length := by omega
  refine ⟨j, W[j], ?_, hjW, List.getElem?_eq_getElem hjW, ?_⟩
  · have hb : (es.toList.map (·.born))[j]? = (List.range W.length)[j]? := by rw [h.born]
    rw [List.getElem?_map, List.getElem?_eq_getElem hj, List.getElem?_range hjW] at hb
    simpa using hb
  · have hv : (es.toList.map kv)[j]? = (W.map evS)[j]? := by rw [h.vals]
    rw [List.getElem?_map, List.getElem?_map, List.getElem?_eq_getElem hj, List.getElem?_eq_getElem hjW] at hv
    simp only [Option.map_some, Option.some.injEq, kv, evS, Prod.mk.injEq] at hv
    exact hv.2
theorem born_lt {w : World} {bm : Nat} {W : List Sy} {es : Array MapEntry} (h : MapS w bm W es) : ∀ x ∈ es.toList, x.born < W.length := by
  intro x hx
  obtain ⟨j, s, h1, h2, _⟩ := entry_at h hx
  omega
theorem born_nodup {w : World} {bm : Nat} {W : List Sy} {es : Array MapEntry} (h : MapS w bm W es) : (es.toList.map (·.born)).Nodup := by
  rw [h.born]
  exact List.nodup_range
theorem MrRel.done {w : World} {bm r : Nat} {W : List Sy} {es : Array MapEntry} {lv : Value} {wr : World} {seen : Array Nat} {left : List Nat} (h : MrRel w bm r W es lv wr seen left) (h0 : (leftOf es seen).size = 0) : (seen.toList.filterMap (effJ W)).Perm (W.filterMap effS) := by
  have hl : left = [] := by
    cases left with
    | nil => rfl
    | cons j left =>
      exfalso
      have hnd : (seen.toList ++ j :: left).Nodup := h.perm.nodup_iff.2 List.nodup_range
      have hjr : j ∈ List.range W.length := h.perm.mem_iff.1 (by simp)
      have hjW : j < W.length := List.mem_range.1 hjr
      have hlen : es.toList.length = W.length := by
        have := congrArg List.length h.map.vals
        simpa using this
      obtain ⟨e, hej⟩ : ∃ e, es.toList[j]? = some e := ⟨_, List.getElem?_eq_getElem (by omega)⟩
      have he := List.mem_of_getElem? hej
      have hb : (es.toList.map (·.born))[j]? = (List.range W.length)[j]? := by rw [h.map.born]
      rw [List.getElem?_map, hej, List.getElem?_range hjW] at hb
      simp only [Option.map_some, Option.some.injEq] at hb
      have hemp : leftOf es seen = #[] := Array.eq_empty_of_size_eq_zero h0
      unfold leftOf at hemp
      rw [Array.filter_eq_empty_iff] at hemp
      have := hemp e (by simpa using he)
      simp at this
      rw [hb] at this
      have hjs : j ∈ seen.toList := by simpa using this
      exact (List.nodup_append.1 hnd).2.2 j hjs j (by simp) rfl
  have hp := h.perm
  rw [hl, List.append_nil] at hp
  rw [← range_eff]
  exact hp.filterMap _
theorem MrRel.next {w : World} {bm r : Nat} {W : List Sy} {es : Array MapEntry} {lv : Value} {wr : World} {seen : Array Nat} {left : List Nat} (h : MrRel w bm r W es lv wr seen left) {e : MapEntry} (he : e ∈ (leftOf es seen).toList) :
    ∃ (j : Nat) (s : Sy), e.born = j ∧ W[j]? = some s ∧ e.val = .agg (sc s) ∧ e ∈ es.toList ∧ ((seen.push j).toList ++ left.erase j).Perm (List.range W.length) ∧ seen.size < W.length := by
  have hm : e ∈ es.toList ∧ e.born ∉ seen.toList := by
    unfold leftOf at he
    simpa using he
  obtain ⟨j, s, h1, h2, h3, h4⟩ := entry_at h.map hm.1
  rw [h1] at hm
  have hjl : j ∈ left := by
    have : j ∈ seen.toList ++ left := h.perm.mem_iff.2 (List.mem_range.2 h2)
    rcases List.mem_append.1 this with h5 | h5
    · exact absurd h5 hm.2
    · exact h5
  refine ⟨j, s, h1, h3, h4, hm.1, ?_, ?_⟩
  · refine List.Perm.trans ?_ h.perm
    rw [Array.toList_push, List.append_assoc]
    exact List.Perm.append_left _ (List.perm_cons_erase hjl).symm
  · have hlen := h.perm.length_eq
    rw [List.length_append, List.length_range, Array.length_toList] at hlen
    have := List.length_pos_of_mem hjl
    omega
theorem Own.onlyR {α : Type} {t k : Nat} {enc : α → List Value} {B g : Nat} {w w' : World} {v : Value} {l : List α} (h : Own t k enc B w v l) (q : Only g w w') (hg : g < B) : Own t k enc B w' v l := by
  refine ⟨h.1, ?_⟩
  rcases h.2 with hn | ⟨g', cap, cur, rfl, hB, hgg, rest⟩
  · exact .inl hn
  · exact .inr ⟨g', cap, cur, rfl, hB, (q.block g' (block_lt hgg) (by omega)).trans hgg, rest⟩
theorem own_block {α : Type} {t k : Nat} {enc : α → List Value} {B : Nat} {w w' : World} {v : Value} {l : List α} (h : Own t k enc B w v l) (hg : w.grownBy w' v.ownBlock) {c : Nat} {o : Obj} (hc : c < B) (ho : w.heap[c]? = some o) : w'.heap[c]? = some o :=
  (hg.block c (block_lt ho) fun e => by
    have := (World.ownsRow.lt h c e.symm).1
    omega).trans ho
def MgPost (w : World) (R : Option (List Sy)) (e : Ending) (w' : World) : Prop := Keep w w' ∧ match R with
  | none => e = .returned (.tuple #[.slice none 0 0, .int .i64 1])
  | some W => ∃ v m, e = .returned (.tuple #[v, .int .i64 0]) ∧ Row il 59 w' v m ∧ IsMg W m
theorem mg_not {a b : List Ic} (h : ¬ ∀ i ∈ a ++ b, rightI i) : mg (a ++ b) = none := if_neg h
theorem filterMap_push (W : List Sy) (seen : Array Nat) (j : Nat) : (seen.push j).toList.filterMap (effJ W) = seen.toList.filterMap (effJ W) ++ (effJ W j).toList := by
  rw [Array.toList_push, List.filterMap_append]
  cases h : effJ W j <;> simp [h]

set_option maxRecDepth 100000 in
set_option maxHeartbeats 4000000 in
theorem imerge (u v : Value) (a b : List Ic) (w : World) (hu : Cells il w u a) (hv : Cells il w v b) (hl : a.length + b.length ≤ 100000) : Calls Tryz.prog 18 #[u, v] w (MgPost w (mg (a ++ b))) := by
  obtain ⟨R, hR⟩ : ∃ R, mg (a ++ b) = R := ⟨_, rfl⟩
  rw [hR]
  have HR := Lib.hid hR
  have HA := Lib.hid (iallRight u a w (Ls.of hu) (by omega))
  have HB := Lib.hid (fun w1 (k : Keep w w1) => iallRight v b w1 (Ls.of (hv.keep k)) (by omega))
  obtain ⟨u0, u1, eu, _, _⟩ := hu.form
  obtain ⟨v0, v1, ev, _, _⟩ := hv.form
  have HU := Lib.hid hu
  have HV := Lib.hid hv
  clear hR hu hv
  by_cases ha : ∀ i ∈ a, rightI i
  · rw [decide_eq_true ha] at HA
    by_cases hb : ∀ i ∈ b, rightI i
    · simp only [decide_eq_true hb] at HB
      have hall : ∀ i ∈ a ++ b, rightI i := fun i hi => by
        rcases List.mem_append.1 hi with h | h
        · exact ha i h
        · exact hb i h
      have HST := Lib.hid (show storS [] (a ++ b) = R from by rw [← HR.out]; unfold mg; rw [if_pos hall])
      clear ha hb hall HR
      obtain ⟨N1, hN1⟩ : ∃ N, a.length = N := ⟨_, rfl⟩
      obtain ⟨N2, hN2⟩ : ∃ N, b.length = N := ⟨_, rfl⟩
      rw [hN1] at eu hl
      rw [hN2] at ev hl
      have HN1 := Lib.hid hN1
      have HN2 := Lib.hid hN2
      clear hN1 hN2
      subst eu ev
      obtain ⟨hz, hi⟩ := zero_of_info info43b
      obtain ⟨hz2, hi2⟩ := zero_of_info info58b
      obtain ⟨n, hn⟩ : ∃ n, n = 21 := ⟨21, rfl⟩
      have hsz : ∀ w, (Go.sizeOf 59).run Tryz.prog w = .ok n w := fun w => by rw [hn]; exact Tryz.sizeOf59 w
      have hn0 : ¬ n = 0 := by omega
      have hrn : ∀ i : Ic, (ic i).size = n := fun i => by rw [hn]; exact ic_size i
      obtain ⟨n3, hn3⟩ : ∃ n, n = 22 := ⟨22, rfl⟩
      have hsz3 : ∀ w, (Go.sizeOf 102).run Tryz.prog w = .ok n3 w := fun w => by rw [hn3]; exact Tryz.sizeOf102 w
      have hn30 : ¬ n3 = 0 := by omega
      have hsn : ∀ s : Sy, (sc s).size = n3 := fun s => by rw [hn3]; exact sc_size s
      have HNn := Lib.hid hn
      have HN3 := Lib.hid hn3
      clear hn hn3
      go_enter Tryz.func18, Tryz.ntmps18
      go_wp2_with fail
      refine HA.out.mono ?_
      rintro e w1 ⟨rfl, k1⟩
      have HK1 := Lib.hid k1
      have HBc := Lib.hid (HB.out w1 k1)
      clear k1 HA HB
      go_wp2_with fail
      refine HBc.out.mono ?_
      rintro e w2 ⟨rfl, k2⟩
      have HK2 := Lib.hid ((HK1.out.trans k2).alloc (.cells #[.slice u0 N1 u1, .slice v0 N2 v1] 22))
      have HG2 := Lib.hid (show (w2.alloc (.cells #[.slice u0 N1 u1, .slice v0 N2 v1] 22)).heap[w2.heap.size]? = some (.cells #[.slice u0 N1 u1, .slice v0 N2 v1] 22 (0, 0)) from heap_alloc_last w2 _)
      have HCON := Lib.hid (concatI _ _ a b _ _ HG2.out (HU.out.keep HK2.out) (HV.out.keep HK2.out) (by rw [HN1.out, HN2.out]; omega))
      clear k2 HBc HK1 HU HV
      go_wp2_with fail
      refine HCON.out.mono ?_
      rintro e w3 ⟨v3, rfl, o3, k3⟩
      have HK3 := Lib.hid (HK2.out.trans k3)
      have HSt := Lib.hid (istories v3 (a ++ b) w3 (Ls.of (o3.row elI).cells) (by rw [List.length_append, HN1.out, HN2.out]; omega))
      rw [HST.out] at HSt
      clear o3 k3 HCON HG2 HK2
      cases R with
      | none =>
        go_wp2_with fail
        refine HSt.out.mono ?_
        rintro e w4 ⟨k4, rfl⟩
        go_wp2
        go_ret2
        exact ⟨HK3.out.trans k4, rfl⟩
      | some W =>
        obtain ⟨hKey, hWl⟩ := storS_keys (W := []) List.Pairwise.nil HST.out
        have hWs : W.length ≤ 100000 := by
          rw [List.length_append, HN1.out, HN2.out] at hWl
          simp at hWl
          omega
        have HKey := Lib.hid hKey
        clear hKey hWl
        go_wp2_with fail
        refine HSt.out.mono ?_
        rintro e w4 ⟨k4, bm, es, rfl, hbm, hm⟩
        have HK4 := Lib.hid (HK3.out.trans k4)
        have HM4 := Lib.hid hm
        have hbw : w.heap.size ≤ bm := Nat.le_trans HK3.out.size hbm
        have hbl : bm < w4.heap.size := block_lt hm.block
        have hrg := run_range_map (P := Tryz.prog) w4 97 _ _ bm es W.length under53 hm.block
        have HKr := Lib.hid (HK4.out.alloc (.mapIter (some bm) W.length #[] W.length))
        have HMr := Lib.hid (hm.keep ((Keep.refl w4).alloc (.mapIter (some bm) W.length #[] W.length)))
        have HIr := Lib.hid (show (w4.alloc (.mapIter (some bm) W.length #[] W.length)).heap[w4.heap.size]? = some (.mapIter (some bm) W.length #[] W.length) from heap_alloc_last w4 _)
        clear k4 hm hbm HSt HK3
        obtain ⟨r, hr⟩ : ∃ r, w4.heap.size = r := ⟨_, rfl⟩
        rw [hr] at HIr hbl hrg
        have HRr := Lib.hid hr
        go_wp2
        go_loopw [8] (fun lv wr => ∃ seen left, MrRel w bm r W es lv wr seen left) (fun _ wr => W.length - seenN r wr)
        case atStart => exact ⟨#[], List.range W.length, HIr.out, HMr.out, by simp, Own.nil _ _, HKr.out⟩
        case round =>
          obtain ⟨seen, left, hrel⟩ := hrel
          have HREL := Lib.hid hrel
          have hIter := hrel.iter
          have hnx := run_next_at (P := Tryz.prog) wr 0 r bm W.length W.length seen es W.length hrel.iter hrel.map.block (born_lt hrel.map) (Nat.le_refl _)
          rcases hnx with ⟨h0, hnx⟩ | ⟨e, he, w5, hw5, hnx⟩
          · have hnx' : ∀ ty, (Instr.next (.pointer (some ⟨r, 0, none⟩)) false ty).run Tryz.prog wr = .ok (.tuple #[.bool false]) wr := fun _ => hnx
            have HP := Lib.hid (HREL.out.done h0)
            have HKw := Lib.hid hrel.keep
            have hll : (seen.toList.filterMap (effJ W)).length ≤ 1000000 := by
              rw [HP.out.length_eq]
              have := List.length_filterMap_le effS W
              omega
            have HSo := Lib.hid (isort_at _ _ (r + 1) w wr hrel.own hll hrel.keep (by omega))
            clear hrel hIter hnx h0 hll
            go_wp2_with fail
            refine HSo.out.mono ?_
            rintro e w6 ⟨rfl, m, hp, hs, hrow, k6⟩
            have HE := Lib.hid (show MgPost w (some W) (.returned (.tuple #[_, .int .i64 0])) w6 from ⟨k6, _, m, rfl, hrow, isMg_of HKey.out HP.out hp hs⟩)
            clear hp hs hrow k6
            go_wp2
            go_ret2
            exact HE.out
          · obtain ⟨j, s, hj1, hj2, hj3, hj4, hj5, hj6⟩ := hrel.next he
            rw [hj1, hj3] at hnx
            obtain ⟨w6, hw6⟩ : ∃ w6, setBlock w5 r (.mapIter (some bm) W.length (seen.push j) W.length) = w6 := ⟨_, rfl⟩
            rw [hw6] at hnx
            have hnx' : ∀ ty, (Instr.next (.pointer (some ⟨r, 0, none⟩)) false ty).run Tryz.prog wr = .ok (.tuple #[.bool true, e.key, .agg (sc s)]) w6 := fun _ => hnx
            have hO6 : Only r wr w6 := by rw [← hw6]; exact only_block wr w5 hw5 r _
            have hI6 : w6.heap[r]? = some (.mapIter (some bm) W.length (seen.push j) W.length) := by rw [← hw6]; exact block_block wr w5 hw5 r (block_lt hIter) _
            have hM6 : MapS w6 bm W es := ⟨hO6.obj hrel.map.block (by omega), hrel.map.vals, hrel.map.born⟩
            have hOw6 := hrel.own.onlyR hO6 (by omega)
            have hK6 : Keep w w6 := Only.made hrel.keep hO6 (by omega)
            have hen := run_entry_at (P := Tryz.prog) w6 r bm W.length seen es W.length e (by rw [hj1]; exact hI6) hM6.block hj4 (born_nodup hM6)
            rw [hj3] at hen
            have HA6 := Lib.hid (SAt.new w6 zeroY)
            have hst := HA6.out.store s
            have hld := (HA6.out.put s).whole HN3.out
            obtain ⟨w7, hw7⟩ : ∃ w7, (w6.alloc (.cells (sc zeroY) 102)).setRow w6.heap.size (sc s) = w7 := ⟨_, rfl⟩
            have hK67 : Keep w6 w7 := by rw [← hw7]; exact ((Keep.refl w6).alloc _).setRow _ _ (Nat.le_refl _)
            rw [hw7] at hst hld
            have HI6 := Lib.hid hI6
            have HM6 := Lib.hid hM6
            have HO6 := Lib.hid hOw6
            have HK6 := Lib.hid hK6
            have HK67 := Lib.hid hK67
            have HPm := Lib.hid hj5
            have HWj := Lib.hid (show effJ W j = effS s from by unfold effJ; rw [hj2]; rfl)
            have HEf := Lib.hid (ieffect s)
            have hSs := hsn s
            have hSz := hsn zeroY
            have HL8 := Lib.hid (show (seen.toList.filterMap (effJ W)).length ≤ 100000 from by
              have h1 := List.length_filterMap_le (effJ W) seen.toList
              have h2 : seen.toList.length < W.length := by rw [Array.length_toList]; exact hj6
              omega)
            have HLs := Lib.hid (show W.length - (seen.push j).size < W.length - seen.size from by rw [Array.size_push]; omega)
            have HSN := Lib.hid (show seenN r wr = seen.size from by unfold seenN; rw [hIter])
            clear hrel hnx hw5 hw6 he hj1 hj2 hj3 hj4 hj5 hO6 hI6 hM6 hOw6 hK6 hK67 HREL HA6 hIter
            have hsx7 := hw7
            clear hw7
            generalize e.key = kk at *
            generalize sc s = S at *
            cases hef : effS s with
            | none =>
              rw [hef] at HEf
              simp only [Option.getD_none, Option.isSome_none] at HEf
              go_wp2_with fail
              refine (HEf.out _).mono ?_
              rintro e8 w8 ⟨rfl, k8⟩
              have HA8 := Lib.hid (IAt.new w8 zeroI)
              have hst8 := HA8.out.store zeroI
              have hIz := hrn zeroI
              have HK8 := Lib.hid ((HK67.out.trans k8).trans (((Keep.refl w8).alloc (.cells (ic zeroI) 59)).setRow w8.heap.size (ic zeroI) (Nat.le_refl _)))
              clear k8 hst hld hen hnx' hsx7
              go_wp2
              go_roundw
              case rel =>
                refine ⟨seen.push j, left.erase j, HK8.out.obj HI6.out, HM6.out.keep HK8.out, HPm.out, ?_, HK6.out.trans HK8.out⟩
                rw [filterMap_push, HWj.out, hef]
                simpa using HO6.out.keep HK8.out
              case measure =>
                show W.length - seenN r _ < W.length - seenN r wr
                rw [HSN.out, show seenN r _ = (seen.push j).size from by unfold seenN; rw [HK8.out.obj HI6.out]]
                exact HLs.out
            | some x =>
              rw [hef] at HEf
              simp only [Option.getD_some, Option.isSome_some] at HEf
              go_wp2_with fail
              refine (HEf.out _).mono ?_
              rintro e8 w8 ⟨rfl, k8⟩
              have HA8 := Lib.hid (IAt.new w8 zeroI)
              have hst8 := HA8.out.store x
              have hld8 := (HA8.out.put x).whole HNn.out
              have hIz := hrn x
              have HK8 := Lib.hid ((HK67.out.trans k8).trans (((Keep.refl w8).alloc (.cells (ic zeroI) 59)).setRow w8.heap.size (ic x) (Nat.le_refl _)))
              have HS1' := Lib.hid (slice_inc x)
              have HR1' := Lib.hid (fun w => Row.inc w x)
              have HO8 := Lib.hid (HO6.out.keep HK8.out)
              have hlen8 := HL8.out
              have hsz8 : r + 1 ≤ w6.heap.size := block_lt HI6.out
              clear k8 hst hld hen hnx' hsx7
              go_wp2_with (first | ((with_reducible refine at_slice [(0, .agg (ic x))] ?_ _ (HS1'.out _) ?_); rfl) | (at_builtin; refine wp_app elI rfl _ _ rfl (r + 1) _ _ (seen.toList.filterMap (effJ W)) [x] rfl rfl (HO8.out.keep ((Keep.refl _).alloc _)) (HR1'.out _).cells ?q1 ?q2 ?q3 ?_))
              case q1 => simp; omega
              case q2 => simp; omega
              case q3 => have := HK8.out.size; simp at this ⊢; omega
              intro v9 w9 k1 k2
              have HOx := Lib.hid (HO8.out.keep ((Keep.refl _).alloc (.cells (ic x) 59)))
              have HKx := Lib.hid (HK8.out.trans ((Keep.refl _).alloc (.cells (ic x) 59)))
              have HI9 := Lib.hid (own_block HOx.out k2 (by omega : r < r + 1) (HKx.out.obj HI6.out))
              have HM9 := Lib.hid (show MapS w9 bm W es from ⟨own_block HOx.out k2 (by omega : bm < r + 1) (HKx.out.obj HM6.out.block), HM6.out.vals, HM6.out.born⟩)
              have HK9 := Lib.hid (show Keep w w9 from HOx.out.grown (HK6.out.trans HKx.out) (by omega) k2)
              have HO9 := Lib.hid k1
              clear k1 k2 hst8 hld8
              go_wp2
              go_roundw
              case rel =>
                refine ⟨seen.push j, left.erase j, HI9.out, HM9.out, HPm.out, ?_, HK9.out⟩
                rw [filterMap_push, HWj.out, hef]
                exact HO9.out
              case measure =>
                show W.length - seenN r _ < W.length - seenN r wr
                rw [HSN.out, show seenN r _ = (seen.push j).size from by unfold seenN; rw [HI9.out]]
                exact HLs.out
    · simp only [decide_eq_false hb] at HB
      have HRE := Lib.hid (show R = none from by rw [← HR.out]; exact mg_not fun h => hb fun i hi => h i (by simp [hi]))
      clear ha hb eu ev
      go_enter Tryz.func18, Tryz.ntmps18
      go_wp2_with fail
      refine HA.out.mono ?_
      rintro e w1 ⟨rfl, k1⟩
      have HBc := Lib.hid (HB.out w1 k1)
      go_wp2_with fail
      refine HBc.out.mono ?_
      rintro e w2 ⟨rfl, k2⟩
      go_wp2
      go_ret2
      rw [HRE.out]
      exact ⟨k1.trans k2, rfl⟩
  · rw [decide_eq_false ha] at HA
    have HRE := Lib.hid (show R = none from by rw [← HR.out]; exact mg_not fun h => ha fun i hi => h i (by simp [hi]))
    clear ha eu ev
    go_enter Tryz.func18, Tryz.ntmps18
    go_wp2_with fail
    refine HA.out.mono ?_
    rintro e w1 ⟨rfl, k1⟩
    go_wp2
    go_ret2
    rw [HRE.out]
    exact ⟨k1, rfl⟩
end Go.Proofs.YtgkgpdlakamgiaaGreat
