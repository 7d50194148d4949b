/- Proved: a map from numbers to true in memory: what is looked up, what is put in. No condition. -/
import Derived.Test.YtfikdeobejhblaaMp1
import Derived.Maps.OwnSet
import Derived.WideKeyRuns
import Derived.MapKept
namespace Go.Proofs.Ytfikdeobejhblaa
open Go.RowKit

theorem nint : Try.prog.underlying 3 = some (.int .i64) := by kernel_rfl
theorem ncheck (em : Bool) (q : Int) (w : World) : (Instr.checkKey em 10000 3 (.int .i64 q)).run Try.prog w = .ok () w := MapKept.run_checkKey nint (by simp [MapKept.IsKey]) em 9999
theorem nbits (q : Int) : Instr.sameBits 10000 (.int .i64 q) (.int .i64 q) = true := by
  simp [Instr.sameBits]
/-- Block b is a map; its numbers are these, each with true. -/
def MapB (w : World) (b : Nat) (S : List Int) : Prop :=
  ∃ es clock, w.heap[b]? = some (.map es clock) ∧ (∀ e ∈ es.toList, ∃ k : Int, e.key = .int .i64 k ∧ e.val = .bool true ∧ k ∈ S) ∧ ∀ k ∈ S, ∃ e ∈ es.toList, e.key = .int .i64 k
theorem MapB.keep {w w' : World} {b : Nat} {S : List Int} (h : MapB w b S) (k : Keep w w') : MapB w' b S := by
  obtain ⟨es, c, h1, h2⟩ := h
  exact ⟨es, c, k.obj h1, h2⟩
theorem MapB.made (w : World) : MapB (w.alloc (.map #[] 0)) w.heap.size [] := ⟨#[], 0, heap_alloc_last w _, fun e he => by simp at he, fun k hk => by simp at hk⟩
theorem nunder : Try.prog.underlying 60 = some (.map 3 4) := by kernel_rfl
theorem nzero (w : World) : (zeroValue 4).run Try.prog w = .ok (.bool false) w := by kernel_rfl
theorem nfound (q : Int) (S : List Int) (w : World) (es : List MapEntry) (h : ∀ e ∈ es, ∃ k : Int, e.key = .int .i64 k ∧ e.val = .bool true ∧ k ∈ S) :
    ∃ r, (Instr.findKey 3 (.int .i64 q) es).run Try.prog w = .ok r w ∧ ((r = none ∧ ∀ e ∈ es, e.key ≠ .int .i64 q) ∨ ∃ (j : Nat) (e0 : MapEntry), r = some (j, .bool true) ∧ q ∈ S ∧ es[j]? = some e0 ∧ e0.key = .int .i64 q) := by
  have hs := MapKept.findNow_spec (d := .int .i64) (k := .int .i64 q) (by simp [MapKept.IsKey]) es 0 (fun x hx => by
    obtain ⟨k, h1, _⟩ := h x hx
    rw [h1]
    simp [MapKept.IsKey])
  rcases hs with ⟨h1, h2⟩ | ⟨j, e, h1, h2, h3⟩
  · exact ⟨none, MapKept.run_findKey nint h1, .inl ⟨rfl, h2⟩⟩
  · obtain ⟨k, a, b, c⟩ := h e (List.mem_of_getElem? h2)
    rw [h3] at a
    have hk : q = k := by simpa using a
    subst hk
    rw [b, Nat.zero_add] at h1
    exact ⟨_, MapKept.run_findKey nint h1, .inr ⟨j, e, rfl, c, h2, h3⟩⟩
theorem MapB.look {w : World} {b : Nat} {S : List Int} (h : MapB w b S) (q : Int) : (Instr.lookup 60 (.map (some b)) (.int .i64 q) false).run Try.prog w = .ok (.bool (decide (q ∈ S))) w := by
  obtain ⟨es, clock, hb, he, hs⟩ := h
  obtain ⟨r, hf, hr⟩ := nfound q S w es.toList he
  have hk := fun em => ncheck em q w
  rcases hr with ⟨rfl, hn⟩ | ⟨j, e0, rfl, hp, _⟩
  · have hq : ¬ q ∈ S := fun hq => by
      obtain ⟨e, he1, he2⟩ := hs q hq
      exact hn e he1 he2
    rw [decide_eq_false hq]
    unfold Instr.lookup
    simp only [Sem.run_bind, run_underlying nunder, MapKept.run_getObj_map hb, hk, hf, Result.andThen_ok, Sem.run_pure, nzero]
    simp
  · rw [decide_eq_true hp]
    unfold Instr.lookup
    simp only [Sem.run_bind, run_underlying nunder, MapKept.run_getObj_map hb, hk, hf, Result.andThen_ok, Sem.run_pure]
    simp
theorem nOnly {b : Nat} (w : World) (o : Obj) : Only b w { w with heap := w.heap.setIfInBounds b o } :=
  ⟨rfl, rfl, rfl, by simp, fun k _ hb => by
    simp only [Array.getElem?_setIfInBounds]
    rw [if_neg (Ne.symm hb)]⟩
theorem MapB.upd {w : World} {b : Nat} {S : List Int} (h : MapB w b S) (q : Int) : ∃ w', (Instr.mapUpdate 60 (.map (some b)) (.int .i64 q) (.bool true)).run Try.prog w = .ok () w' ∧ MapB w' b (q :: S) ∧ Only b w w' := by
  obtain ⟨es, clock, hb, he, hs⟩ := h
  obtain ⟨r, hf, hr⟩ := nfound q S w es.toList he
  have hk := fun em => ncheck em q w
  have hlt := block_lt hb
  rcases hr with ⟨rfl, hn⟩ | ⟨j, e0, rfl, hp, he0, hkey⟩
  · refine ⟨{ w with heap := w.heap.setIfInBounds b (.map (es.push { key := .int .i64 q, val := .bool true, born := clock }) (clock + 1)) }, ?_, ⟨es.push { key := .int .i64 q, val := .bool true, born := clock }, clock + 1, ?_, ?_, ?_⟩, nOnly (b := b) w _⟩
    · unfold Instr.mapUpdate
      simp only [Sem.run_bind, run_underlying nunder, MapKept.run_getObj_map hb, hk, hf, Result.andThen_ok]
      exact MapKept.run_setObj_map _ hb
    · simp [hlt]
    · intro e h1
      rw [Array.toList_push, List.mem_append] at h1
      rcases h1 with h1 | h1
      · obtain ⟨k, a, b, c⟩ := he e h1
        exact ⟨k, a, b, by simp [c]⟩
      · simp at h1
        subst h1
        exact ⟨q, rfl, rfl, by simp⟩
    · intro k hk1
      rcases List.mem_cons.1 hk1 with rfl | hk1
      · exact ⟨{ key := .int .i64 k, val := .bool true, born := clock }, by rw [Array.toList_push]; simp, rfl⟩
      · obtain ⟨e, h1, h2⟩ := hs k hk1
        exact ⟨e, by rw [Array.toList_push]; simp [h1], h2⟩
  · have hst : (Instr.keyThatStays (((es[j]?).map (·.key)).getD (.int .i64 q)) (.int .i64 q)).run Try.prog w = .ok (.int .i64 q) w := by
      have he1 : es[j]? = some e0 := by simpa using he0
      unfold Instr.keyThatStays
      rw [he1]
      simp [hkey, nbits]
    refine ⟨{ w with heap := w.heap.setIfInBounds b (.map (es.modify j fun e => { e with key := .int .i64 q, val := .bool true }) clock) }, ?_, ⟨es.modify j fun e => { e with key := .int .i64 q, val := .bool true }, clock, ?_, ?_, ?_⟩, nOnly (b := b) w _⟩
    · unfold Instr.mapUpdate
      simp only [Sem.run_bind, run_underlying nunder, MapKept.run_getObj_map hb, hk, hf, Result.andThen_ok, hst]
      exact MapKept.run_setObj_map _ hb
    · simp [hlt]
    · intro e h1
      obtain ⟨k, hk1, hk2⟩ := List.getElem_of_mem h1
      have h3 := List.getElem?_eq_getElem hk1
      rw [hk2] at h3
      simp only [Array.toList_modify, List.getElem?_modify] at h3
      by_cases ej : j = k
      · subst ej
        rw [he0] at h3
        simp at h3
        subst h3
        exact ⟨q, rfl, rfl, by simp⟩
      · simp [ej] at h3
        obtain ⟨k', a, b, c⟩ := he e (List.mem_of_getElem? (i := k) (by simpa using h3))
        exact ⟨k', a, b, by simp [c]⟩
    · have hin : ∀ k ∈ S, ∃ e ∈ (es.modify j fun e => { e with key := .int .i64 q, val := .bool true }).toList, e.key = .int .i64 k := by
        intro k hk1
        obtain ⟨e, h1, h2⟩ := hs k hk1
        obtain ⟨i, hi⟩ := List.getElem?_of_mem h1
        by_cases ej : j = i
        · subst ej
          rw [he0] at hi
          obtain rfl := Option.some.inj hi
          refine ⟨{ e0 with key := .int .i64 q, val := .bool true }, List.mem_of_getElem? (i := j) ?_, by rw [← h2, hkey]⟩
          rw [Array.toList_modify, List.getElem?_modify, he0]
          simp
        · refine ⟨e, List.mem_of_getElem? (i := i) ?_, h2⟩
          rw [Array.toList_modify, List.getElem?_modify, hi]
          simp [ej]
      intro k hk1
      rcases List.mem_cons.1 hk1 with rfl | hk1
      · exact hin _ hp
      · exact hin k hk1
end Go.Proofs.Ytfikdeobejhblaa
