/- An argument that is a list of numbers, opened: its cells, and that its numbers fit; and lists one behind the other. No condition. -/
import Derived.Test.YtgfbiaidbkjeiaaO
namespace Go.Proofs.Ytgfbiaidbkjeiaa
open Go.RowKit Go.ChangeShapes Go.WideShapes

/-- What is told of a list of numbers that came in. -/
def IsRow (k : IntKind) (w : World) (a : Option Addr) (len cap : Nat) (zs : List Int) : Prop :=
  (a = none ∧ len = 0 ∧ cap = 0 ∧ zs = []) ∨
  ∃ x, a = some x ∧ len ≤ cap ∧ cap ≤ maxLen ∧ zs.length = cap ∧ (∀ i, i < zs.length → w.cell? (x.add i) = some (.int k (zs.getD i 0))) ∧ ∀ n ∈ zs, (Lit.int k n).wf = true

structure RowAt (k : IntKind) (w : World) (a : Option Addr) (len : Nat) (z : Nat → Int) : Prop where
  cells : ∀ i, i < len → ∃ b off, a = some ⟨b, off, none⟩ ∧ b < w.heap.size ∧ w.cell? ⟨b, off + i, none⟩ = some (.int k (z i))
  ok : ∀ i, i < len → (Lit.int k (z i)).wf = true

theorem RowAt.same {k : IntKind} {w w' : World} {a : Option Addr} {len : Nat} {z : Nat → Int} (h : RowAt k w a len z) (l : Same w w') : RowAt k w' a len z := by
  refine ⟨fun i hi => ?_, h.ok⟩
  obtain ⟨b, off, ha, hb, hc⟩ := h.cells i hi
  exact ⟨b, off, ha, Nat.lt_of_lt_of_le hb l.size, (Below.cell l hb).trans hc⟩

theorem IsRow.at {k : IntKind} {w : World} {a : Option Addr} {len cap : Nat} {zs : List Int} (h : IsRow k w a len cap zs) : RowAt k w a len (fun i => zs.getD i 0) := by
  rcases h with ⟨rfl, rfl, rfl, rfl⟩ | ⟨x, rfl, hl, hm, hz, hc, hw⟩
  · exact ⟨fun i hi => by omega, fun i hi => by omega⟩
  · refine ⟨fun i hi => ?_, fun i hi => ?_⟩
    · obtain ⟨b, off, rfl, hcell⟩ := ints_at hc (by omega)
      exact ⟨b, off, rfl, World.block_lt_of_cell? w ⟨b, off + i, none⟩ (hcell i (by omega)), hcell i (by omega)⟩
    · have hi' : i < zs.length := by omega
      show (Lit.int k (zs.getD i 0)).wf = true
      rw [List.getD_eq_getElem?_getD, List.getElem?_eq_getElem hi']
      exact hw _ (List.getElem_mem hi')

/-- The first k of lists, one behind the other; and m of them from the k-th on. -/
def cat (f : Nat → List Bool) : Nat → List Bool
  | 0 => []
  | k + 1 => cat f k ++ f k
def suf (f : Nat → List Bool) : Nat → Nat → List Bool
  | _, 0 => []
  | k, m + 1 => f k ++ suf f (k + 1) m

theorem cat_suf (f : Nat → List Bool) (m : Nat) : ∀ k, cat f k ++ suf f k m = cat f (k + m) := by
  induction m with
  | zero => intro k; simp [suf]
  | succ m ih => intro k; rw [suf, ← List.append_assoc, show cat f k ++ f k = cat f (k + 1) from rfl, ih (k + 1)]; congr 1; omega

theorem suf_zero (f : Nat → List Bool) (m : Nat) : suf f 0 m = cat f m := by
  have := cat_suf f m 0; simpa [cat] using this

theorem suf_step (f : Nat → List Bool) (k len : Nat) (h : k < len) : suf f k (len - k) = f k ++ suf f (k + 1) (len - (k + 1)) := by
  obtain ⟨m, hm⟩ : ∃ m, len - k = m + 1 := ⟨len - k - 1, by omega⟩
  rw [hm, suf, show len - (k + 1) = m from by omega]
theorem suf_none (f : Nat → List Bool) (k : Nat) : suf f k 0 = [] := rfl

theorem cat_len (f : Nat → List Bool) (b : Nat) : ∀ k, (∀ i, i < k → (f i).length ≤ b) → (cat f k).length ≤ b * k := by
  intro k
  induction k with
  | zero => intro _; simp [cat]
  | succ k ih =>
    intro h
    have h1 := ih (fun i hi => h i (by omega))
    have h2 := h k (by omega)
    rw [cat, List.length_append, Nat.mul_succ]
    omega
theorem at_same {P : Program} {f : FuncId} {args : Array Value} {v : Value} {w0 : World} (h : ∀ u, Same w0 u → Calls P f args u fun e w' => e = .returned v ∧ Same u w') (u : SW w0) : Calls P f args u.1 fun e w'' => e = .returned v ∧ ∃ m : SW w0, w'' = m.1 :=
  (h u.1 u.2).mono fun _ w' ⟨he, hb⟩ => ⟨he, ⟨w', u.2.trans hb⟩, rfl⟩
theorem cap_min (v : Nat) (w : World) (ts : Array TypeId) (t : TypeId) : (Builtin.min_ ts t #[.int .u64 v, .int .u64 9223372036854775808]).run Try.prog w = .ok (.int .u64 (capN v : Nat)) w := by
  rw [run_min_int2, show (if (9223372036854775808 : Int) < v then 9223372036854775808 else (v : Int)) = ((capN v : Nat) : Int) by unfold capN; split <;> omega]
theorem capN_le (v : Nat) : capN v ≤ 2 ^ 63 := by unfold capN; omega
end Go.Proofs.Ytgfbiaidbkjeiaa
