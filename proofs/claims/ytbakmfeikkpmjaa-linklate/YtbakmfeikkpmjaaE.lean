/- Proved: lists of things of k cells in memory. No condition. -/
import Derived.Test.YtbakmfeikkpmjaaA2
import Derived.Laws.AppendOwn
namespace Go.Proofs.Ytbakmfeikkpmjaa
open Go.RowKit

/-! ### Lists in memory -/
section
variable {α : Type} (enc : α → List Value)

/-- The cells of a list. -/
def flat (l : List α) : List Value := l.flatMap enc
theorem flat_nil : flat enc [] = [] := rfl
theorem flat_cons (x : α) (l : List α) : flat enc (x :: l) = enc x ++ flat enc l := rfl
theorem flat_append (l m : List α) : flat enc (l ++ m) = flat enc l ++ flat enc m := by simp [flat]
theorem flat_one (x : α) : flat enc [x] = enc x := by simp [flat]
theorem flat_len {k : Nat} (hk : ∀ x, (enc x).length = k) (l : List α) : (flat enc l).length = l.length * k := by
  induction l with
  | nil => simp [flat]
  | cons x l ih => rw [flat_cons, List.length_append, ih, hk, List.length_cons, Nat.add_mul, Nat.one_mul, Nat.add_comm]
theorem flat_drop {k : Nat} (hk : ∀ x, (enc x).length = k) (l : List α) (i : Nat) : (flat enc l).drop (i * k) = flat enc (l.drop i) := by
  induction i generalizing l with
  | zero => simp
  | succ i ih =>
    cases l with
    | nil => simp [flat]
    | cons x l =>
      have h1 : (enc x ++ flat enc l).drop k = flat enc l := by rw [List.drop_append_of_le_length (by rw [hk]; exact Nat.le_refl _), List.drop_of_length_le (l := enc x) (by rw [hk]; exact Nat.le_refl _), List.nil_append]
      rw [flat_cons, List.drop_succ_cons, Nat.add_mul, Nat.one_mul, Nat.add_comm, ← List.drop_drop, h1, ih]
theorem flat_take {k : Nat} (hk : ∀ x, (enc x).length = k) (l : List α) (i : Nat) : (flat enc l).take (i * k) = flat enc (l.take i) := by
  induction i generalizing l with
  | zero => simp [flat]
  | succ i ih =>
    cases l with
    | nil => simp [flat]
    | cons x l =>
      rw [flat_cons, List.take_succ_cons, flat_cons, Nat.add_mul, Nat.one_mul, Nat.add_comm, List.take_append, hk, List.take_of_length_le (by rw [hk]; omega), Nat.add_sub_cancel_left, ih]
theorem flat_get {k : Nat} (hk : ∀ x, (enc x).length = k) (l : List α) (j : Nat) (x : α) (h : l[j]? = some x) (i : Nat) (hi : i < k) : (flat enc l)[j * k + i]? = (enc x)[i]? := by
  have h1 : (flat enc l)[j * k + i]? = ((flat enc l).drop (j * k))[i]? := by rw [List.getElem?_drop]
  obtain ⟨hj, hx⟩ := List.getElem?_eq_some_iff.1 h
  rw [h1, flat_drop enc hk, List.drop_eq_getElem_cons hj, hx, flat_cons, List.getElem?_append_left (by rw [hk]; exact hi)]

/-- A slice of such things lies in memory. -/
def Cells (w : World) (v : Value) (l : List α) : Prop :=
  (v = .slice none 0 0 ∧ l = []) ∨ ∃ g o cap, v = .slice (some ⟨g, o, none⟩) l.length cap ∧ l.length ≤ cap ∧ cap ≤ maxLen ∧ g < w.heap.size ∧ ∀ j u, (flat enc l)[j]? = some u → w.cell? ⟨g, o + j, none⟩ = some u
/-- .. in a block of that type. -/
structure Row (t : TypeId) (w : World) (v : Value) (l : List α) : Prop where
  cells : Cells enc w v l
  tag : ∀ g, v.ownBlock = some g → ∃ cur fz, w.heap[g]? = some (.cells cur t fz)

variable {enc}
theorem Cells.nil (w : World) : Cells enc w (.slice none 0 0) [] := .inl ⟨rfl, rfl⟩
theorem Row.nil (t : TypeId) (w : World) : Row enc t w (.slice none 0 0) [] := ⟨Cells.nil w, fun g h => by simp [Value.ownBlock] at h⟩
theorem Cells.small {w : World} {v : Value} {l : List α} (h : Cells enc w v l) : l.length ≤ maxLen := by
  rcases h with ⟨_, rfl⟩ | ⟨_, _, _, _, h1, h2, _⟩
  · simp
  · omega
theorem Cells.block {w w' : World} {v : Value} {l : List α} (h : Cells enc w v l) (hs : w.heap.size ≤ w'.heap.size) (k : ∀ g, v.ownBlock = some g → w'.heap[g]? = w.heap[g]?) : Cells enc w' v l := by
  rcases h with ⟨h1, h2⟩ | ⟨g, o, cap, rfl, h1, h2, h3, h4⟩
  · exact .inl ⟨h1, h2⟩
  · exact .inr ⟨g, o, cap, rfl, h1, h2, by omega, fun j u hj => (World.cell?_of_block (w := w) (k g rfl)).trans (h4 j u hj)⟩
theorem Cells.lt {w : World} {v : Value} {l : List α} (h : Cells enc w v l) {g : Nat} (hg : v.ownBlock = some g) : g < w.heap.size := by
  rcases h with ⟨rfl, _⟩ | ⟨g', o, cap, rfl, _, _, h3, _⟩
  · simp [Value.ownBlock] at hg
  · simp [Value.ownBlock] at hg
    omega
theorem Cells.keep {w w' : World} {v : Value} {l : List α} (h : Cells enc w v l) (k : Keep w w') : Cells enc w' v l :=
  h.block k.size fun g hg => k.block g (h.lt hg)
theorem Row.keep {t : TypeId} {w w' : World} {v : Value} {l : List α} (h : Row enc t w v l) (k : Keep w w') : Row enc t w' v l :=
  ⟨h.cells.keep k, fun g hg => by
    obtain ⟨cur, fz, hb⟩ := h.tag g hg
    exact ⟨cur, fz, k.obj hb⟩⟩
theorem Cells.only {w w' : World} {v : Value} {l : List α} {b : Nat} (h : Cells enc w v l) (k : Only b w w') (hb : v.ownBlock ≠ some b) : Cells enc w' v l :=
  h.block k.size fun g hg => k.block g (h.lt hg) (fun e => hb (by rw [hg, e]))
theorem Row.only {t t' : TypeId} {w w' : World} {v : Value} {l : List α} {b : Nat} {c : Array Value} {fz : Nat × Nat} (h : Row enc t w v l) (k : Only b w w') (hb : w.heap[b]? = some (.cells c t' fz)) (ht : t ≠ t') : Row enc t w' v l := by
  have hn : v.ownBlock ≠ some b := fun e => by
    obtain ⟨cur, fz', h1⟩ := h.tag b e
    rw [hb] at h1
    simp at h1
    exact ht h1.2.1.symm
  exact ⟨h.cells.only k hn, fun g hg => by
    obtain ⟨cur, fz, h1⟩ := h.tag g hg
    exact ⟨cur, fz, k.obj h1 (fun e => hn (by rw [hg, e]))⟩⟩

/-- What one has made. -/
theorem Row.owns {t : TypeId} {k : Nat} (hk : ∀ x, (enc x).length = k) {w : World} {B n : Nat} {v : Value} {l : List α} (h : w.ownsRow B t k v n (flat enc l)) (hk0 : 0 < k) : Row enc t w v l ∧ n = l.length := by
  have hn : n = l.length := by
    have := h.1
    rw [flat_len enc hk] at this
    exact (Nat.eq_of_mul_eq_mul_right hk0 this).symm
  refine ⟨⟨?_, ?_⟩, hn⟩
  · rcases h.2 with ⟨h1, h2⟩ | ⟨g, cap, cur, h1, _, h3, h4, h5, h6, h7⟩
    · exact .inl ⟨h1, List.eq_nil_of_length_eq_zero (by omega)⟩
    · refine .inr ⟨g, 0, cap, by rw [h1, hn], by omega, h5, block_lt h3, fun j u hj => ?_⟩
      have hc := h.cells (g := g) (by rw [h1]; rfl) j u hj
      rwa [show (⟨g, 0, none⟩ : Addr).add j = ⟨g, 0 + j, none⟩ from by unfold Addr.add; split <;> simp_all] at hc
  · intro g hg
    rcases h.2 with ⟨h1, _⟩ | ⟨g', cap, cur, h1, _, h3, _⟩
    · rw [h1] at hg; simp [Value.ownBlock] at hg
    · rw [h1] at hg
      simp [Value.ownBlock] at hg
      subst hg
      exact ⟨cur, _, h3⟩

/-- One of them, in whole and in part. -/
theorem Cells.load {P : Program} {k : Nat} (hk : ∀ x, (enc x).length = k) {w : World} {g o cap n : Nat} {l : List α} (h : Cells enc w (.slice (some ⟨g, o, none⟩) l.length cap) l) (j : Nat) (x : α) (hx : l[j]? = some x) (a m : Nat) (L : List Value) (hL : L = ((enc x).drop a).take m) (hm : a + m ≤ k) (hn : n = m) :
    (loadCellsFrom ⟨g, o + j * k + a, none⟩ 0 n #[]).run P w = .ok L.toArray w := by
  have hlen : L.length = n := by rw [hL, hn, List.length_take, List.length_drop, hk]; omega
  subst hlen
  have := run_loadCells_list (P := P) w ⟨g, o + j * k + a, none⟩ L (fun i v hv => by
    have hadd : (⟨g, o + j * k + a, none⟩ : Addr).add i = ⟨g, o + (j * k + (a + i)), none⟩ := by unfold Addr.add; split <;> simp_all <;> omega
    rw [hadd]
    rcases h with ⟨h1, _⟩ | ⟨g', o', cap', h1, _, _, _, h4⟩
    · cases h1
    · simp at h1
      obtain ⟨⟨rfl, rfl⟩, _⟩ := h1
      have hi : i < m := by
        have := (List.getElem?_eq_some_iff.1 hv).1
        omega
      refine h4 _ _ ?_
      rw [flat_get enc hk l j x hx (a + i) (by omega), ← hv, hL, List.getElem?_take, if_pos hi, List.getElem?_drop])
  simpa [loadCells] using this
theorem Cells.cell {k : Nat} (hk : ∀ x, (enc x).length = k) {w : World} {g o cap : Nat} {l : List α} (h : Cells enc w (.slice (some ⟨g, o, none⟩) l.length cap) l) (j : Nat) (x : α) (hx : l[j]? = some x) (a : Nat) (ha : a < k) (u : Value) (hu : (enc x)[a]? = some u) :
    w.cell? ⟨g, o + j * k + a, none⟩ = some u := by
  rcases h with ⟨h1, _⟩ | ⟨g', o', cap', h1, _, _, _, h4⟩
  · cases h1
  · simp at h1
    obtain ⟨⟨rfl, rfl⟩, _⟩ := h1
    rw [Nat.add_assoc]
    exact h4 _ _ (by rw [flat_get enc hk l j x hx a ha, hu])
theorem Cells.ptr {w : World} {v : Value} {l : List α} (h : Cells enc w v l) (j : Nat) (hj : j < l.length) : ∃ g o cap, v = .slice (some ⟨g, o, none⟩) l.length cap ∧ l.length ≤ cap ∧ cap ≤ maxLen ∧ g < w.heap.size := by
  rcases h with ⟨_, rfl⟩ | ⟨g, o, cap, h1, h2, h3, h4, _⟩
  · simp at hj
  · exact ⟨g, o, cap, h1, h2, h3, h4⟩
theorem Cells.form {w : World} {v : Value} {l : List α} (h : Cells enc w v l) : ∃ a cap, v = .slice a l.length cap ∧ l.length ≤ cap ∧ cap ≤ maxLen := by
  rcases h with ⟨h1, rfl⟩ | ⟨g, o, cap, h1, h2, h3, h4, _⟩
  · exact ⟨none, 0, h1, Nat.le_refl _, by simp [maxLen]⟩
  · exact ⟨_, _, h1, h2, h3⟩
/-- A part. -/
theorem Cells.part {k : Nat} (hk : ∀ x, (enc x).length = k) {w : World} {g o cap : Nat} {l : List α} (h : Cells enc w (.slice (Option.some ⟨g, o, none⟩) l.length cap) l) (a b c : Nat) (hab : a ≤ b) (hb : b ≤ l.length) (o' : Nat) (ho : a < b → o' = o + a * k) (hc : b - a ≤ c) (hc2 : c ≤ maxLen) :
    Cells enc w (.slice (Option.some ⟨g, o', none⟩) (b - a) c) ((l.drop a).take (b - a)) := by
  rcases h with ⟨h1, _⟩ | ⟨g', o1, cap', h1, h2, h3, h4, h5⟩
  · cases h1
  · simp at h1
    obtain ⟨⟨rfl, rfl⟩, rfl⟩ := h1
    have hl : ((l.drop a).take (b - a)).length = b - a := by rw [List.length_take, List.length_drop]; omega
    refine .inr ⟨g, o', c, by rw [hl], by rw [hl]; exact hc, hc2, h4, fun j u hj => ?_⟩
    have hj2 := (List.getElem?_eq_some_iff.1 hj).1
    rw [flat_len enc hk, hl] at hj2
    have hlt : a < b := by
      rcases Nat.lt_or_ge a b with h | h
      · exact h
      · rw [show b - a = 0 by omega, Nat.zero_mul] at hj2; omega
    rw [ho hlt, Nat.add_assoc]
    refine h5 _ _ ?_
    rw [← flat_take enc hk, List.getElem?_take, if_pos (by exact hj2), ← flat_drop enc hk, List.getElem?_drop] at hj
    exact hj
theorem Row.part {t : TypeId} {k : Nat} (hk : ∀ x, (enc x).length = k) {w : World} {g o cap : Nat} {l : List α} (h : Row enc t w (.slice (Option.some ⟨g, o, none⟩) l.length cap) l) (a b c : Nat) (hab : a ≤ b) (hb : b ≤ l.length) (o' : Nat) (ho : a < b → o' = o + a * k) (hc : b - a ≤ c) (hc2 : c ≤ maxLen) :
    Row enc t w (.slice (Option.some ⟨g, o', none⟩) (b - a) c) ((l.drop a).take (b - a)) :=
  ⟨h.cells.part hk a b c hab hb o' ho hc hc2, fun g' hg' => h.tag g' (by simpa [Value.ownBlock] using hg')⟩
end

end Go.Proofs.Ytbakmfeikkpmjaa
