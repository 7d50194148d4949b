/- Proved: a map from prefixes to routes in memory: what is looked up, what is put in, how many there are. No condition. -/
import Derived.Test.YtgocmolebanflaaPc
import Derived.Maps.OwnSet
import Derived.WideKeyRuns
import Derived.MapKept
namespace Go.Proofs.Ytgocmolebanflaa
open Go.RowKit

set_option maxRecDepth 100000 in
theorem check_key (em : Bool) (p : Px) (hp : L16 p) (w : World) : (Instr.checkKey em 10000 25 (.agg (pc p))).run Try.prog w = .ok () w := by
  obtain ⟨s, l, n⟩ := p
  obtain ⟨c0, c1, c2, c3, c4, c5, c6, c7, c8, c9, c10, c11, c12, c13, c14, c15, rfl⟩ := list16 l hp
  kernel_rfl
theorem bits_self (p : Px) : Instr.sameBits 10000 (.agg (pc p)) (.agg (pc p)) = true := by
  unfold Instr.sameBits
  simp only [beq_self_eq_true, Bool.true_and, List.all_eq_true]
  intro x hx
  obtain ⟨a, b⟩ := x
  have hz : ∀ (L : List Value) (x : Value × Value), x ∈ L.zip L → x.1 = x.2 ∧ x.1 ∈ L := by
    intro L
    induction L with
    | nil => simp
    | cons y L ih =>
      intro x hx
      rw [List.zip_cons_cons] at hx
      rcases List.mem_cons.1 hx with rfl | h
      · exact ⟨rfl, by simp⟩
      · exact ⟨(ih x h).1, by simp [(ih x h).2]⟩
  obtain ⟨h1, h2⟩ := hz _ _ hx
  simp only at h1 h2
  subst h1
  simp only [pc, List.mem_cons, List.mem_append, List.mem_map, List.not_mem_nil, or_false] at h2
  rcases h2 with rfl | ⟨c, _, rfl⟩ | rfl
  · simp [Instr.sameBits]
  · simp [bv, Instr.sameBits]
  · simp [Instr.sameBits]

def kv (e : MapEntry) : Value × Value := (e.key, e.val)
def ev (r : Rt) : Value × Value := (.agg (pc r.to), .agg (rc r))
/-- Block b is a map of these. -/
def MapIs (w : World) (b : Nat) (W : List Rt) : Prop := ∃ es clock, w.heap[b]? = some (.map es clock) ∧ es.toList.map kv = W.map ev
def askW : List Rt → Px → Nat → Option (Nat × Value)
  | [], _, _ => none
  | r :: W, p, i => if p = r.to then some (i, .agg (rc r)) else askW W p (i + 1)
theorem ask (p : Px) (hp : L16 p) (w : World) : ∀ (W : List Rt) (es : List MapEntry) (i : Nat), es.map kv = W.map ev → (Instr.findAsking 25 (.agg (pc p)) es i).run Try.prog w = .ok (askW W p i) w := by
  intro W
  induction W with
  | nil =>
    intro es i h
    obtain rfl : es = [] := by simpa using h
    simp [Instr.findAsking, askW]
  | cons r W ih =>
    intro es i h
    cases es with
    | nil => simp at h
    | cons e es =>
      simp only [List.map_cons, List.cons.injEq] at h
      obtain ⟨h1, h2⟩ := h
      simp only [kv, ev, Prod.mk.injEq] at h1
      have he : (Op.equal 25 (.agg (pc p)) (.agg (pc r.to))).run Try.prog w = .ok (decide (p = r.to)) w := eq_pcd 9996 p r.to hp r.ok w
      have hi := ih es (i + 1) h2
      unfold Instr.findAsking askW
      simp only [Sem.run_bind, h1.1, he, Result.andThen_ok]
      by_cases hpr : p = r.to
      · simp [hpr, h1.2]
      · simp [hpr, hi]
theorem found {p : Px} (hp : L16 p) {w : World} {W : List Rt} {es : List MapEntry} (h : es.map kv = W.map ev) : (Instr.findKey 25 (.agg (pc p)) es).run Try.prog w = .ok (askW W p 0) w := by
  rw [run_findKey_eq (P := Try.prog) w (by kernel_rfl)]
  exact ask p hp w W es 0 h
def getW (W : List Rt) (p : Px) : Rt := (W.find? fun r => decide (p = r.to)).getD zeroR
theorem askW_get (W : List Rt) (p : Px) (i : Nat) : (hasP W p = true → ∃ j, askW W p i = some (j, .agg (rc (getW W p)))) ∧ (hasP W p = false → askW W p i = none ∧ getW W p = zeroR) := by
  induction W generalizing i with
  | nil => exact ⟨fun h => by simp [hasP] at h, fun _ => ⟨rfl, rfl⟩⟩
  | cons r W ih =>
    rw [has_cons]
    by_cases e : p = r.to
    · refine ⟨fun _ => ⟨i, ?_⟩, fun h => by simp [e] at h⟩
      unfold askW getW
      simp [e]
    · have e' : ¬ r.to = p := fun h => e h.symm
      have hg : getW (r :: W) p = getW W p := by
        unfold getW
        simp [e]
      rw [hg]
      unfold askW
      simp only [e, e', decide_false, Bool.false_or, if_false]
      exact ih (i + 1)
theorem under66 : Try.prog.underlying 66 = some (.map 25 34) := by kernel_rfl
theorem look {w : World} {b : Nat} {W : List Rt} (h : MapIs w b W) {p : Px} (hp : L16 p) : (Instr.lookup 66 (.map (some b)) (.agg (pc p)) false).run Try.prog w = .ok (.agg (rc (getW W p))) w ∧ (Instr.lookup 66 (.map (some b)) (.agg (pc p)) true).run Try.prog w = .ok (.tuple #[.agg (rc (getW W p)), .bool (hasP W p)]) w := by
  obtain ⟨es, clock, hb, he⟩ := h
  have hf := found (w := w) hp he
  have hz := (zero_of_info (P := Try.prog) info34b).1 w
  have hk := fun em => check_key em p hp w
  unfold Instr.lookup
  simp only [Sem.run_bind, run_underlying under66, MapKept.run_getObj_map hb, hk, hf, Result.andThen_ok, Sem.run_pure]
  cases hh : hasP W p
  · obtain ⟨h1, h2⟩ := (askW_get W p 0).2 hh
    simp [h1, h2, hz]
  · obtain ⟨j, h1⟩ := (askW_get W p 0).1 hh
    simp [h1]
def setW : List Rt → Rt → List Rt
  | [], r => [r]
  | y :: W, r => if r.to = y.to then r :: W else y :: setW W r
theorem askW_set (W : List Rt) (r : Rt) (i : Nat) : (askW W r.to i = none ∧ setW W r = W ++ [r]) ∨ ∃ j v, askW W r.to i = some (i + j, v) ∧ j < W.length ∧ setW W r = W.set j r ∧ (W[j]?).map (·.to) = some r.to := by
  induction W generalizing i with
  | nil => exact .inl ⟨rfl, rfl⟩
  | cons y W ih =>
    by_cases e : r.to = y.to
    · refine .inr ⟨0, .agg (rc y), ?_, by simp, ?_, by simp [e]⟩
      · unfold askW
        simp [e]
      · unfold setW
        simp [e]
    · rcases ih (i + 1) with ⟨h1, h2⟩ | ⟨j, v, h1, h2, h3, h4⟩
      · refine .inl ⟨?_, ?_⟩
        · unfold askW
          simp [e, h1]
        · unfold setW
          simp [e, h2]
      · refine .inr ⟨j + 1, v, ?_, by simp; omega, ?_, by simpa using h4⟩
        · unfold askW
          rw [if_neg e, h1]
          congr 2
          omega
        · unfold setW
          rw [if_neg e, h3]
          rfl
theorem Only.setObj {b : Nat} (w : World) (o : Obj) : Only b w { w with heap := w.heap.setIfInBounds b o } :=
  ⟨rfl, rfl, rfl, by simp, fun k _ hb => by
    simp only [Array.getElem?_setIfInBounds]
    rw [if_neg (Ne.symm hb)]⟩
theorem upd {w : World} {b : Nat} {W : List Rt} (h : MapIs w b W) (r : Rt) : ∃ w', (Instr.mapUpdate 66 (.map (some b)) (.agg (pc r.to)) (.agg (rc r))).run Try.prog w = .ok () w' ∧ MapIs w' b (setW W r) ∧ Only b w w' := by
  obtain ⟨es, clock, hb, he⟩ := h
  have hf := found (w := w) r.ok he
  have hk := fun em => check_key em r.to r.ok w
  have hlt := block_lt hb
  have hlen : es.toList.length = W.length := by
    have := congrArg List.length he
    simpa using this
  rcases askW_set W r 0 with ⟨h1, h2⟩ | ⟨j, v, h1, h2, h3, h4⟩
  · refine ⟨{ w with heap := w.heap.setIfInBounds b (.map (es.push { key := .agg (pc r.to), val := .agg (rc r), born := clock }) (clock + 1)) }, ?_, ⟨es.push { key := .agg (pc r.to), val := .agg (rc r), born := clock }, clock + 1, ?_, ?_⟩, Only.setObj (b := b) w _⟩
    · unfold Instr.mapUpdate
      simp only [Sem.run_bind, run_underlying under66, MapKept.run_getObj_map hb, hk, hf, h1, Result.andThen_ok]
      exact MapKept.run_setObj_map _ hb
    · simp [hlt]
    · rw [h2, List.map_append, ← he]
      simp [kv, ev]
  · rw [Nat.zero_add] at h1
    obtain ⟨e0, he0⟩ : ∃ e0, es[j]? = some e0 := ⟨_, Array.getElem?_eq_getElem (by rw [← Array.length_toList, hlen]; exact h2)⟩
    have hkey : e0.key = .agg (pc r.to) := by
      have h5 : (es.toList.map kv)[j]? = some (kv e0) := by simp [he0]
      rw [he, List.getElem?_map] at h5
      cases hw : W[j]? with
      | none => rw [hw] at h4; simp at h4
      | some y =>
        rw [hw] at h4 h5
        simp at h4 h5
        have := congrArg Prod.fst h5
        simp only [ev, kv] at this
        rw [← this, h4]
    have hst : (Instr.keyThatStays (((es[j]?).map (·.key)).getD (.agg (pc r.to))) (.agg (pc r.to))).run Try.prog w = .ok (.agg (pc r.to)) w := by
      unfold Instr.keyThatStays
      rw [he0]
      simp [hkey, bits_self]
    refine ⟨{ w with heap := w.heap.setIfInBounds b (.map (es.modify j fun e => { e with key := .agg (pc r.to), val := .agg (rc r) }) clock) }, ?_, ⟨es.modify j fun e => { e with key := .agg (pc r.to), val := .agg (rc r) }, clock, ?_, ?_⟩, Only.setObj (b := b) w _⟩
    · unfold Instr.mapUpdate
      simp only [Sem.run_bind, run_underlying under66, MapKept.run_getObj_map hb, hk, hf, h1, Result.andThen_ok, hst]
      exact MapKept.run_setObj_map _ hb
    · simp [hlt]
    · rw [h3, List.map_set, ← he]
      apply List.ext_getElem?
      intro k
      simp only [Array.toList_modify, List.getElem?_map, List.getElem?_modify, List.getElem?_set, List.length_map]
      by_cases e : j = k
      · subst e
        have hj : j < es.toList.length := by omega
        simp only [if_pos hj]
        rw [List.getElem?_eq_getElem hj]
        simp [kv, ev]
      · simp [e]
theorem MapIs.keep {w w' : World} {b : Nat} {W : List Rt} (h : MapIs w b W) (k : Keep w w') : MapIs w' b W := by
  obtain ⟨es, clock, hb, he⟩ := h
  exact ⟨es, clock, k.obj hb, he⟩
theorem MapIs.only {w w' : World} {b g : Nat} {W : List Rt} (h : MapIs w b W) (k : Only g w w') (hne : b ≠ g) : MapIs w' b W := by
  obtain ⟨es, clock, hb, he⟩ := h
  exact ⟨es, clock, k.obj hb hne, he⟩
theorem MapIs.ne {w : World} {b g : Nat} {W : List Rt} (h : MapIs w b W) {c : Array Value} {t : TypeId} {fz : Nat × Nat} (hg : w.heap[g]? = some (.cells c t fz)) : g ≠ b := fun e => by
  obtain ⟨es, clock, hb, _⟩ := h
  rw [e, hb] at hg
  cases hg
theorem MapIs.row {α : Type} {enc : α → List Value} {t : TypeId} {w w' : World} {b : Nat} {W : List Rt} {v : Value} {l : List α} (h : MapIs w b W) (hr : Row enc t w v l) (k : Only b w w') : Row enc t w' v l := by
  have hn : v.ownBlock ≠ some b := fun e => by
    obtain ⟨cur, fz', h1⟩ := hr.tag b e
    exact h.ne h1 rfl
  exact ⟨hr.cells.only k hn, fun g hg => by
    obtain ⟨cur, fz, h1⟩ := hr.tag g hg
    exact ⟨cur, fz, k.obj h1 (fun e => hn (by rw [hg, e]))⟩⟩
theorem MapIs.tb {w w' : World} {b c : Nat} {W m : List Rt} (h : MapIs w b W) (ht : Tb w c m) (k : Only b w w') : Tb w' c m := by
  obtain ⟨⟨v, h1, h2⟩, h3, h4⟩ := ht
  exact ⟨⟨v, k.obj h1 (h.ne h1), h.row h2 k⟩, h3, h4⟩
theorem MapIs.made (w : World) : MapIs (w.alloc (.map #[] 0)) w.heap.size [] := ⟨#[], 0, heap_alloc_last w _, rfl⟩
theorem MapIs.len {w : World} {b : Nat} {W : List Rt} (h : MapIs w b W) : ∃ es clock, w.heap[b]? = some (.map es clock) ∧ es.size = W.length := by
  obtain ⟨es, clock, hb, he⟩ := h
  refine ⟨es, clock, hb, ?_⟩
  have := congrArg List.length he
  simpa using this

/-! ### The map and the table -/
theorem to_inj {m : List Rt} (hs : Sorted m) {x y : Rt} (hx : x ∈ m) (hy : y ∈ m) (h : x.to = y.to) : x = y := by
  obtain ⟨i, hi, rfl⟩ := List.mem_iff_getElem.1 hx
  obtain ⟨j, hj, rfl⟩ := List.mem_iff_getElem.1 hy
  have hp := List.pairwise_iff_getElem.1 hs
  rcases Nat.lt_trichotomy i j with h1 | h1 | h1
  · exact absurd h (ne_lt (hp i j hi hj h1))
  · subst h1; rfl
  · exact absurd h.symm (ne_lt (hp j i hj hi h1))
theorem has_perm {W m : List Rt} (h : W.Perm m) (p : Px) : hasP W p = hasP m p := by
  rw [Bool.eq_iff_iff, has_iff, has_iff]
  exact ⟨fun ⟨x, hx, e⟩ => ⟨x, h.mem_iff.1 hx, e⟩, fun ⟨x, hx, e⟩ => ⟨x, h.mem_iff.2 hx, e⟩⟩
theorem get_mem {m : List Rt} (hs : Sorted m) {p : Px} (hp : L16 p) (hh : hasP m p = true) : getS m p ∈ m ∧ (getS m p).to = p := by
  obtain ⟨r, h1, h2⟩ := (has_rank hs hp).1 hh
  unfold getS
  rw [if_pos hh, List.getD_eq_getElem?_getD, h1]
  exact ⟨List.mem_of_getElem? h1, h2⟩
theorem getW_mem {W : List Rt} {p : Px} (hh : hasP W p = true) : getW W p ∈ W ∧ (getW W p).to = p := by
  obtain ⟨x, hx, e⟩ := has_iff.1 hh
  unfold getW
  cases hf : W.find? fun r => decide (p = r.to) with
  | none =>
    have := List.find?_eq_none.1 hf x hx
    simp [e] at this
  | some z =>
    have h1 := List.mem_of_find?_eq_some hf
    have h2 := List.find?_some hf
    simp at h2
    exact ⟨h1, h2.symm⟩
theorem getW_eq {W m : List Rt} (h : W.Perm m) (hs : Sorted m) {p : Px} (hp : L16 p) : getW W p = getS m p := by
  cases hh : hasP m p
  · rw [((askW_get W p 0).2 (by rw [has_perm h, hh])).2]
    unfold getS
    rw [if_neg (by simp [hh])]
  · obtain ⟨h1, h2⟩ := getW_mem (W := W) (by rw [has_perm h, hh])
    obtain ⟨h3, h4⟩ := get_mem hs hp hh
    exact to_inj hs (h.mem_iff.1 h1) h3 (by rw [h2, h4])
theorem setW_perm {W m : List Rt} (h : W.Perm m) (hs : Sorted m) (r : Rt) : (setW W r).Perm (putL m r) := by
  rcases askW_set W r 0 with ⟨h1, h2⟩ | ⟨j, v, h1, h2, h3, h4⟩
  · have hh : hasP m r.to = false := by
      rw [← has_perm h]
      cases hh : hasP W r.to
      · rfl
      · obtain ⟨j, hj⟩ := (askW_get W r.to 0).1 hh
        rw [h1] at hj
        cases hj
    obtain ⟨A, B, rfl, hA, hB⟩ := split_no hs hh
    rw [h2, (put_new hA hB).2]
    refine (List.perm_append_comm (l₁ := W) (l₂ := [r])).trans ?_
    exact (List.Perm.cons r h).trans List.perm_middle.symm
  · cases hw : W[j]? with
    | none => rw [hw] at h4; simp at h4
    | some y =>
      rw [hw] at h4
      simp at h4
      have hy : y ∈ m := h.mem_iff.1 (List.mem_of_getElem? hw)
      have hh : hasP m r.to = true := has_iff.2 ⟨y, hy, h4⟩
      obtain ⟨A, z, B, rfl, hz, hA, hB⟩ := split_has hs hh
      have hyz : y = z := to_inj hs hy (by simp) (by rw [h4, hz])
      subst hyz
      rw [h4] at hA hB
      rw [h3, (put_old hA h4).2 hB, List.set_eq_take_append_cons_drop, if_pos h2]
      have hW : W = W.take j ++ y :: W.drop (j + 1) := by
        conv => lhs; rw [← List.take_append_drop j W]
        rw [drop_cons' hw]
      have h5 : (y :: (W.take j ++ W.drop (j + 1))).Perm (y :: (A ++ B)) := by
        refine List.perm_middle.symm.trans ?_
        rw [← hW]
        exact h.trans List.perm_middle
      exact List.perm_middle.trans ((List.Perm.cons r h5.cons_inv).trans List.perm_middle.symm)
end Go.Proofs.Ytgocmolebanflaa
