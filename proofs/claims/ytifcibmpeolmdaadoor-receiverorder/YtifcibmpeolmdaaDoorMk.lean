/- Proved: a map from errors to counts in memory: what is looked up, what is put in. No condition. -/
import Derived.Test.YtifcibmpeolmdaaDoorTu
import Derived.Maps.OwnSet
import Derived.WideKeyRuns
import Derived.MapKept
namespace Go.Proofs.YtifcibmpeolmdaaDoor
open Go.RowKit

theorem nint : Tryd.prog.underlying 25 = some (.int .i64) := by kernel_rfl
theorem ncheck (em : Bool) (q : Int) (w : World) : (Instr.checkKey em 10000 25 (.int .i64 q)).run Tryd.prog w = .ok () w := MapKept.run_checkKey nint (by simp [MapKept.IsKey]) em 9999
theorem nbits (q : Int) : Instr.sameBits 10000 (.int .i64 q) (.int .i64 q) = true := by
  simp [Instr.sameBits]
/-- Block b is a map of counts. -/
def MapC (w : World) (b : Nat) (d : Int → Nat) : Prop :=
  ∃ es clock, w.heap[b]? = some (.map es clock) ∧ (∀ e ∈ es.toList, ∃ k : Int, e.key = .int .i64 k ∧ e.val = .int .i64 (d k : Nat)) ∧ (∀ k : Int, d k ≠ 0 → ∃ e ∈ es.toList, e.key = .int .i64 k) ∧
    ∀ (i j : Nat) (a b : MapEntry), es.toList[i]? = some a → es.toList[j]? = some b → a.key = b.key → i = j
theorem MapC.keep {w w' : World} {b : Nat} {d : Int → Nat} (h : MapC w b d) (k : Keep w w') : MapC w' b d := by
  obtain ⟨es, c, h1, h2⟩ := h
  exact ⟨es, c, k.obj h1, h2⟩
theorem MapC.turn {K : List Nat} {w w' : World} {b : Nat} {d : Int → Nat} (h : MapC w b d) (k : Turn K w w') (hb : b ∉ K) : MapC w' b d := by
  obtain ⟨es, c, h1, h2⟩ := h
  exact ⟨es, c, k.obj h1 hb, h2⟩
theorem MapC.lt {w : World} {b : Nat} {d : Int → Nat} (h : MapC w b d) : b < w.heap.size := by
  obtain ⟨es, c, h1, _⟩ := h
  exact block_lt h1
theorem MapC.made (w : World) : MapC (w.alloc (.map #[] 0)) w.heap.size (fun _ => 0) := ⟨#[], 0, heap_alloc_last w _, fun e he => by simp at he, fun k hk => by simp at hk, fun i j a b h => by simp at h⟩
theorem nunder : Tryd.prog.underlying 68 = some (.map 25 3) := by kernel_rfl
theorem nzero (w : World) : (zeroValue 3).run Tryd.prog w = .ok (.int .i64 0) w := by kernel_rfl
theorem nfound (q : Int) (d : Int → Nat) (w : World) (es : List MapEntry) (h : ∀ e ∈ es, ∃ k : Int, e.key = .int .i64 k ∧ e.val = .int .i64 (d k : Nat)) :
    ∃ r, (Instr.findKey 25 (.int .i64 q) es).run Tryd.prog w = .ok r w ∧ ((r = none ∧ ∀ e ∈ es, e.key ≠ .int .i64 q) ∨ ∃ (j : Nat) (e0 : MapEntry), r = some (j, .int .i64 (d q : Nat)) ∧ es[j]? = some e0 ∧ e0.key = .int .i64 q) := by
  have hs := MapKept.findNow_spec (d := .int .i64) (k := .int .i64 q) (by simp [MapKept.IsKey]) es 0 (fun x hx => by
    obtain ⟨k, h1, _⟩ := h x hx
    rw [h1]
    simp [MapKept.IsKey])
  rcases hs with ⟨h1, h2⟩ | ⟨j, e, h1, h2, h3⟩
  · exact ⟨none, MapKept.run_findKey nint h1, .inl ⟨rfl, h2⟩⟩
  · obtain ⟨k, a, b⟩ := h e (List.mem_of_getElem? h2)
    rw [h3] at a
    have hk : q = k := by simpa using a
    subst hk
    rw [b, Nat.zero_add] at h1
    exact ⟨_, MapKept.run_findKey nint h1, .inr ⟨j, e, rfl, h2, h3⟩⟩
theorem MapC.look {w : World} {b : Nat} {d : Int → Nat} (h : MapC w b d) (q : Int) : (Instr.lookup 68 (.map (some b)) (.int .i64 q) false).run Tryd.prog w = .ok (.int .i64 (d q : Nat)) w := by
  obtain ⟨es, clock, hb, he, hs, _⟩ := h
  obtain ⟨r, hf, hr⟩ := nfound q d w es.toList he
  have hk := fun em => ncheck em q w
  rcases hr with ⟨rfl, hn⟩ | ⟨j, e0, rfl, _⟩
  · have hq : d q = 0 := by
      rcases Nat.eq_zero_or_pos (d q) with h | h
      · exact h
      · obtain ⟨e, he1, he2⟩ := hs q (by omega)
        exact absurd he2 (hn e he1)
    rw [hq]
    unfold Instr.lookup
    simp only [Sem.run_bind, run_underlying nunder, MapKept.run_getObj_map hb, hk, hf, Result.andThen_ok, Sem.run_pure, nzero]
    simp
  · unfold Instr.lookup
    simp only [Sem.run_bind, run_underlying nunder, MapKept.run_getObj_map hb, hk, hf, Result.andThen_ok, Sem.run_pure]
    simp
theorem look_none (q : Int) (w : World) : (Instr.lookup 68 (.map none) (.int .i64 q) false).run Tryd.prog w = .ok (.int .i64 0) w := by
  have hk := fun em => ncheck em q w
  obtain ⟨r, hf, hr⟩ := nfound q (fun _ => 0) w [] (fun e he => by simp at he)
  have hn : r = none := by
    rcases hr with h | ⟨j, e0, _, h, _⟩
    · exact h.1
    · simp at h
  subst hn
  unfold Instr.lookup
  simp only [Sem.run_bind, run_underlying nunder, hk, Result.andThen_ok, Sem.run_pure]
  simp [hf]
theorem nOnly {b : Nat} (w : World) (o : Obj) : Only b w { w with heap := w.heap.setIfInBounds b o } :=
  ⟨rfl, rfl, rfl, by simp, fun k _ hb => by
    simp only [Array.getElem?_setIfInBounds]
    rw [if_neg (Ne.symm hb)]⟩
/-- One count anew. -/
def upd (d : Int → Nat) (q : Int) (z : Nat) : Int → Nat := fun k => if k = q then z else d k
theorem upd_at (d : Int → Nat) (q : Int) (z : Nat) : upd d q z q = z := if_pos rfl
theorem upd_ne {d : Int → Nat} {q k : Int} (z : Nat) (h : k ≠ q) : upd d q z k = d k := if_neg h
theorem MapC.upd {w : World} {b : Nat} {d : Int → Nat} (h : MapC w b d) (q : Int) (z : Nat) : ∃ w', (Instr.mapUpdate 68 (.map (some b)) (.int .i64 q) (.int .i64 (z : Nat))).run Tryd.prog w = .ok () w' ∧ MapC w' b (upd d q z) ∧ Only b w w' := by
  obtain ⟨es, clock, hb, he, hs, hu⟩ := h
  obtain ⟨r, hf, hr⟩ := nfound q d w es.toList he
  have hk := fun em => ncheck em q w
  have hlt := block_lt hb
  rcases hr with ⟨rfl, hn⟩ | ⟨j, e0, rfl, he0, hkey⟩
  · refine ⟨{ w with heap := w.heap.setIfInBounds b (.map (es.push { key := .int .i64 q, val := .int .i64 (z : Nat), born := clock }) (clock + 1)) }, ?_, ⟨es.push { key := .int .i64 q, val := .int .i64 (z : Nat), born := clock }, clock + 1, ?_, ?_, ?_, ?_⟩, nOnly (b := b) w _⟩
    · unfold Instr.mapUpdate
      simp only [Sem.run_bind, run_underlying nunder, MapKept.run_getObj_map hb, hk, hf, Result.andThen_ok]
      exact MapKept.run_setObj_map _ hb
    · simp [hlt]
    · intro e h1
      rw [Array.toList_push, List.mem_append] at h1
      rcases h1 with h1 | h1
      · obtain ⟨k, a, b⟩ := he e h1
        have hkq : k ≠ q := fun e2 => hn e h1 (by rw [a, e2])
        exact ⟨k, a, by rw [upd_ne z hkq]; exact b⟩
      · simp at h1
        subst h1
        exact ⟨q, rfl, by rw [upd_at]⟩
    · intro k hk1
      by_cases e : k = q
      · subst e
        exact ⟨{ key := .int .i64 k, val := .int .i64 (z : Nat), born := clock }, by rw [Array.toList_push]; simp, rfl⟩
      · rw [upd_ne z e] at hk1
        obtain ⟨x, h1, h2⟩ := hs k hk1
        exact ⟨x, by rw [Array.toList_push]; simp [h1], h2⟩
    · intro i j x y hx hy hxy
      rw [Array.toList_push] at hx hy
      have hin : ∀ (i : Nat) (x : MapEntry), (es.toList ++ [({ key := .int .i64 q, val := .int .i64 (z : Nat), born := clock } : MapEntry)])[i]? = some x → (es.toList[i]? = some x) ∨ (i = es.toList.length ∧ x.key = .int .i64 q) := by
        intro i x hx
        rcases Nat.lt_or_ge i es.toList.length with h | h
        · rw [List.getElem?_append_left h] at hx; exact .inl hx
        · rw [List.getElem?_append_right h] at hx
          have h0 := (List.getElem?_eq_some_iff.1 hx).1
          simp only [List.length_singleton] at h0
          have h2 : i - es.toList.length = 0 := by omega
          rw [h2] at hx
          simp only [List.getElem?_cons_zero, Option.some.injEq] at hx
          exact .inr ⟨by omega, by rw [← hx]⟩
      rcases hin i x hx with h1 | ⟨h1, h1'⟩ <;> rcases hin j y hy with h2 | ⟨h2, h2'⟩
      · exact hu i j x y h1 h2 hxy
      · exact absurd (hxy.trans h2') (hn x (List.mem_of_getElem? h1))
      · exact absurd (hxy.symm.trans h1') (hn y (List.mem_of_getElem? h2))
      · omega
  · have hst : (Instr.keyThatStays (((es[j]?).map (·.key)).getD (.int .i64 q)) (.int .i64 q)).run Tryd.prog w = .ok (.int .i64 q) w := by
      have he1 : es[j]? = some e0 := by simpa using he0
      unfold Instr.keyThatStays
      rw [he1]
      simp [hkey, nbits]
    have hget : ∀ (i : Nat) (x : MapEntry), (es.modify j fun e => { e with key := .int .i64 q, val := .int .i64 (z : Nat) }).toList[i]? = some x → ∃ y, es.toList[i]? = some y ∧ x.key = y.key ∧ (i = j → x.val = .int .i64 (z : Nat)) ∧ (i ≠ j → x = y) := by
      intro i x h3
      simp only [Array.toList_modify, List.getElem?_modify] at h3
      by_cases ej : j = i
      · subst ej
        rw [he0] at h3
        simp at h3
        subst h3
        exact ⟨e0, he0, hkey.symm, fun _ => rfl, fun h => absurd rfl h⟩
      · simp [ej] at h3
        exact ⟨x, by simpa using h3, rfl, fun h => absurd h.symm ej, fun _ => rfl⟩
    refine ⟨{ w with heap := w.heap.setIfInBounds b (.map (es.modify j fun e => { e with key := .int .i64 q, val := .int .i64 (z : Nat) }) clock) }, ?_, ⟨es.modify j fun e => { e with key := .int .i64 q, val := .int .i64 (z : Nat) }, clock, ?_, ?_, ?_, ?_⟩, nOnly (b := b) w _⟩
    · unfold Instr.mapUpdate
      simp only [Sem.run_bind, run_underlying nunder, MapKept.run_getObj_map hb, hk, hf, Result.andThen_ok, hst]
      exact MapKept.run_setObj_map _ hb
    · simp [hlt]
    · intro e h1
      obtain ⟨i, hi⟩ := List.getElem?_of_mem h1
      obtain ⟨y, hy, e1, e2, e3⟩ := hget i e hi
      obtain ⟨k, a, b⟩ := he y (List.mem_of_getElem? hy)
      by_cases ej : i = j
      · have hyk : y = e0 := by rw [ej, he0] at hy; exact (Option.some.inj hy).symm
        have hkq : k = q := by rw [hyk, hkey] at a; simpa using a.symm
        exact ⟨q, by rw [e1, a, hkq], by rw [upd_at]; exact e2 ej⟩
      · have hkq : k ≠ q := by
          intro e
          exact ej (hu i j y e0 hy he0 (by rw [a, hkey, e]))
        rw [e3 ej]
        exact ⟨k, a, by rw [upd_ne z hkq]; exact b⟩
    · intro k hk1
      have hin : ∀ e ∈ es.toList, e.key = .int .i64 k → ∃ e ∈ (es.modify j fun e => { e with key := .int .i64 q, val := .int .i64 (z : Nat) }).toList, e.key = .int .i64 k := by
        intro e h1 h2
        obtain ⟨i, hi⟩ := List.getElem?_of_mem h1
        by_cases ej : j = i
        · subst ej
          rw [he0] at hi
          obtain rfl := Option.some.inj hi
          refine ⟨{ e0 with key := .int .i64 q, val := .int .i64 (z : Nat) }, List.mem_of_getElem? (i := j) ?_, by rw [← h2, hkey]⟩
          rw [Array.toList_modify, List.getElem?_modify, he0]
          simp
        · refine ⟨e, List.mem_of_getElem? (i := i) ?_, h2⟩
          rw [Array.toList_modify, List.getElem?_modify, hi]
          simp [ej]
      by_cases e : k = q
      · subst e
        exact hin e0 (List.mem_of_getElem? he0) hkey
      · rw [upd_ne z e] at hk1
        obtain ⟨x, h1, h2⟩ := hs k hk1
        exact hin x h1 h2
    · intro i i' x y hx hy hxy
      obtain ⟨x', hx', ex, _⟩ := hget i x hx
      obtain ⟨y', hy', ey, _⟩ := hget i' y hy
      exact hu i i' x' y' hx' hy' (by rw [← ex, ← ey, hxy])
end Go.Proofs.YtifcibmpeolmdaaDoor
