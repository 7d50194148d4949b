/- Proved: how a writer of package bits lies in memory. No condition. -/
import Derived.Test.YtgfbiaidbkjeiaaA
import Derived.Test.YtgfbiaidbkjeiaaP
namespace Go.Proofs.Ytgfbiaidbkjeiaa
open Go.RowKit

/-- A writer's cells. -/
def wc (p : Value) (l : List UInt8) (n : Nat) : Array Value := (p :: (l.map bv ++ [.int .i64 n])).toArray
/-- A block's cells. -/
def bc (p : Value) (l : List UInt8) : Array Value := (p :: l.map bv).toArray
/-- Blocks, the last one first. -/
def Chain (w : World) : List (List UInt8) → Value → Prop
  | [], p => p = .pointer none
  | c :: cs, p => ∃ g q, p = .pointer (some ⟨g, 0, none⟩) ∧ w.heap[g]? = some (.cells (bc q c) 61 (0, 0)) ∧ c.length = 64 ∧ Chain w cs q
/-- Every block of a chain stays. -/
def Keeps (w w' : World) : Prop := ∀ (g : Nat) (c : Array Value), w.heap[g]? = some (.cells c 61 (0, 0)) → w'.heap[g]? = some (.cells c 61 (0, 0))
theorem Chain.keep {w w' : World} (k : Keeps w w') : ∀ {cs : List (List UInt8)} {p : Value}, Chain w cs p → Chain w' cs p
  | [], _, h => h
  | _ :: _, _, ⟨g, q, hp, hg, hc, h⟩ => ⟨g, q, hp, k g _ hg, hc, Chain.keep k h⟩
theorem lt_of_block {w : World} {b : Nat} {o : Obj} (h : w.heap[b]? = some o) : b < w.heap.size := by
  rcases Nat.lt_or_ge b w.heap.size with h1 | h1
  · exact h1
  · rw [Array.getElem?_eq_none h1] at h; cases h
theorem Only.keeps {b : Nat} {w w' : World} (k : Only b w w') (h : ∀ c, w.heap[b]? ≠ some (.cells c 61 (0, 0))) : Keeps w w' := by
  intro g c hg
  by_cases e : g = b
  · subst e; exact absurd hg (h c)
  · rw [k.block g (lt_of_block hg) e]; exact hg
theorem Same.keeps {w w' : World} (k : Same w w') : Keeps w w' := fun _ _ hg => k.obj hg

/-- A writer lies in block b, of these parts. -/
structure WrP (w : World) (b : Nat) (bs : List Bool) (p : Value) (cs : List (List UInt8)) (last : List UInt8) : Prop where
  block : w.heap[b]? = some (.cells (wc p last bs.length) 27 (0, 0))
  len : last.length = 64
  chain : Chain w cs p
  count : cs.length = bs.length / 512
  bytes : cs.reverse.flatten ++ last = bytesN bs (64 * (bs.length / 512) + 64)
/-- A writer lies in block b: these bits are written. -/
def Wr (w : World) (b : Nat) (bs : List Bool) : Prop := ∃ p cs last, WrP w b bs p cs last
theorem Wr.other {w w' : World} {b c : Nat} {bs : List Bool} (h : Wr w b bs) (k : Only c w w') (hb : b ≠ c) (hc : ∀ a, w.heap[c]? ≠ some (.cells a 61 (0, 0))) : Wr w' b bs := by
  obtain ⟨p, cs, last, hp⟩ := h
  exact ⟨p, cs, last, by rw [k.block b (lt_of_block hp.block) hb]; exact hp.block, hp.len, hp.chain.keep (k.keeps hc), hp.count, hp.bytes⟩
theorem Wr.same {w w' : World} {b : Nat} {bs : List Bool} (h : Wr w b bs) (k : Same w w') : Wr w' b bs := by
  obtain ⟨p, cs, last, hp⟩ := h
  exact ⟨p, cs, last, k.obj hp.block, hp.len, hp.chain.keep k.keeps, hp.count, hp.bytes⟩
theorem Wr.lt {w : World} {b : Nat} {bs : List Bool} (h : Wr w b bs) : b < w.heap.size := by
  obtain ⟨p, cs, last, hp⟩ := h
  exact lt_of_block hp.block
theorem Wr.noBlock {w : World} {b : Nat} {bs : List Bool} (h : Wr w b bs) : ∀ a, w.heap[b]? ≠ some (.cells a 61 (0, 0)) := by
  obtain ⟨p, cs, last, hp⟩ := h
  intro a h
  rw [hp.block] at h
  injection h with h
  injection h with _ h _
  cases h

theorem chain_len : ∀ {w : World} {cs : List (List UInt8)} {p : Value}, Chain w cs p → cs.reverse.flatten.length = 64 * cs.length
  | _, [], _, _ => rfl
  | w, c :: cs, _, ⟨_, _, _, _, hc, h⟩ => by
    have := chain_len h
    simp only [List.reverse_cons, List.flatten_append, List.length_append, List.flatten_cons, List.flatten_nil, List.append_nil, List.length_cons, this, hc]
    omega
theorem wc_size (p : Value) (l : List UInt8) (n : Nat) (h : l.length = 64) : (wc p l n).size = 66 := by simp [wc, h]
theorem bc_size (p : Value) (l : List UInt8) (h : l.length = 64) : (bc p l).size = 65 := by simp [bc, h]
theorem wc_full (p : Value) (l : List UInt8) (n : Nat) : (wc p l n)[0]? = some p := by simp [wc]
theorem wc_n (p : Value) (l : List UInt8) (n : Nat) (h : l.length = 64) : (wc p l n)[65]? = some (.int .i64 n) := by simp [wc, h]
theorem wc_get (p : Value) (l : List UInt8) (n i : Nat) (h : i < l.length) : (wc p l n)[1 + i]? = some (.int .u8 (l[i].toNat : Nat)) := by
  rw [Nat.add_comm]
  simp [wc, List.getElem?_append, h, bv]
theorem bc_get (p : Value) (l : List UInt8) (i : Nat) (h : i < l.length) : (bc p l)[1 + i]? = some (.int .u8 (l[i].toNat : Nat)) := by
  rw [Nat.add_comm]
  simp [bc, h, bv]
theorem bc_full (p : Value) (l : List UInt8) : (bc p l)[0]? = some p := by simp [bc]
theorem wc_setn (p : Value) (l : List UInt8) (n m : Nat) (h : l.length = 64) : (wc p l n).setIfInBounds 65 (.int .i64 m) = wc p l m := by
  unfold wc
  apply Array.ext'
  simp only [Array.toList_setIfInBounds]
  rw [List.set_cons_succ, List.set_append_right _ _ (by simp; omega)]
  simp [h]
theorem wc_setp (p q : Value) (l : List UInt8) (n : Nat) : (wc p l n).setIfInBounds 0 q = wc q l n := by simp [wc]
theorem wc_setb (p : Value) (l : List UInt8) (n i c : Nat) (hi : i < l.length) (hc : c < 256) : (wc p l n).setIfInBounds (1 + i) (.int .u8 (c : Nat)) = wc p (l.set i (UInt8.ofNat c)) n := by
  have e : Value.int .u8 (c : Nat) = bv (UInt8.ofNat c) := by unfold bv; rw [UInt8.toNat_ofNat_of_lt' hc]
  rw [e]
  unfold wc
  apply Array.ext'
  simp only [Array.toList_setIfInBounds, List.map_set]
  rw [Nat.add_comm, List.set_cons_succ, List.set_append_left _ _ (by simp; omega)]
theorem wc_setl (p : Value) (l m : List UInt8) (n : Nat) (h : l.length = 64) (hm : m.length = 64) : ((wc p l n).toList.take 1 ++ (ac m).toList ++ (wc p l n).toList.drop (1 + (ac m).toList.length)).toArray = wc p m n := by
  unfold wc ac
  refine congrArg _ ?_
  simp only [List.length_map, hm]
  rw [List.take_succ_cons, List.take_zero, Nat.add_comm, List.drop_succ_cons, List.drop_append, List.drop_eq_nil_of_le (by simp; omega)]
  simp [h]
end Go.Proofs.Ytgfbiaidbkjeiaa
