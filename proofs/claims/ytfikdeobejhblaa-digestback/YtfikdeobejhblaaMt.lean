/- Proved: several texts in one: lists of things of k cells in memory; routes and prefixes as cells; what table's order and Right, and the document's Right answer; routes compared by the language's own '=='; plain mathematics of tables: lists of routes in the order of their prefixes, a prefix's place, what is put in and what is left out; structs and lists of structs made by literals: routes, changes, tables; a table in memory; what table's rows and place, and the library's search by halves, answer; what the library's search by halves answers over routes in order; lists that grow (append); what the library's Clone, Grow and Concat answer over routes; what the library's Grow and Concat answer over routes; parts of lists of routes; what becomes of a table when others come in the place of some of its routes; what table's Put and Drop answer, and what becomes of the table; what table's Len, Copy, Get, All and Between answer; what table's All, Between, putWhere, withdraw and Do answer; what table's Do, Same and aheadOf answer; what table's aheadOf and Changes answer; what table's Changes answers. Each with its conditions where it stands. -/
import Derived.Test.YtfikdeobejhblaaMp1
import Derived.Laws.AppendOwn
import Derived.Great.BuildSlice
import Derived.Laws.AppendOwnNone
import Derived.Lib.AppendZerosOnto
import Derived.OwnWalk
import Derived.Deep.RegionHeld3
import Derived.Deep.RegionWith

/- Proved: lists of things of k cells in memory; routes and prefixes as cells. No condition. -/
namespace Go.Proofs.Ytfikdeobejhblaa
open Go.RowKit

/-! ### Lists in memory -/
section
variable {α : Type} (enc : α → List Value)

/-- The cells of a list. -/
def flat (l : List α) : List Value := l.flatMap enc
theorem flat_nil : flat enc [] = [] := rfl
theorem flat_cons (x : α) (l : List α) : flat enc (x :: l) = enc x ++ flat enc l := rfl
theorem flat_append (l m : List α) : flat enc (l ++ m) = flat enc l ++ flat enc m := by simp [flat]
theorem flat_one (x : α) : flat enc [x] = enc x := by simp [flat]
theorem flat_len {k : Nat} (hk : ∀ x, (enc x).length = k) (l : List α) : (flat enc l).length = l.length * k := by
  induction l with
  | nil => simp [flat]
  | cons x l ih => rw [flat_cons, List.length_append, ih, hk, List.length_cons, Nat.add_mul, Nat.one_mul, Nat.add_comm]
theorem flat_drop {k : Nat} (hk : ∀ x, (enc x).length = k) (l : List α) (i : Nat) : (flat enc l).drop (i * k) = flat enc (l.drop i) := by
  induction i generalizing l with
  | zero => simp
  | succ i ih =>
    cases l with
    | nil => simp [flat]
    | cons x l =>
      have h1 : (enc x ++ flat enc l).drop k = flat enc l := by rw [List.drop_append_of_le_length (by rw [hk]; exact Nat.le_refl _), List.drop_of_length_le (l := enc x) (by rw [hk]; exact Nat.le_refl _), List.nil_append]
      rw [flat_cons, List.drop_succ_cons, Nat.add_mul, Nat.one_mul, Nat.add_comm, ← List.drop_drop, h1, ih]
theorem flat_take {k : Nat} (hk : ∀ x, (enc x).length = k) (l : List α) (i : Nat) : (flat enc l).take (i * k) = flat enc (l.take i) := by
  induction i generalizing l with
  | zero => simp [flat]
  | succ i ih =>
    cases l with
    | nil => simp [flat]
    | cons x l =>
      rw [flat_cons, List.take_succ_cons, flat_cons, Nat.add_mul, Nat.one_mul, Nat.add_comm, List.take_append, hk, List.take_of_length_le (by rw [hk]; omega), Nat.add_sub_cancel_left, ih]
theorem flat_get {k : Nat} (hk : ∀ x, (enc x).length = k) (l : List α) (j : Nat) (x : α) (h : l[j]? = some x) (i : Nat) (hi : i < k) : (flat enc l)[j * k + i]? = (enc x)[i]? := by
  have h1 : (flat enc l)[j * k + i]? = ((flat enc l).drop (j * k))[i]? := by rw [List.getElem?_drop]
  obtain ⟨hj, hx⟩ := List.getElem?_eq_some_iff.1 h
  rw [h1, flat_drop enc hk, List.drop_eq_getElem_cons hj, hx, flat_cons, List.getElem?_append_left (by rw [hk]; exact hi)]

/-- A slice of such things lies in memory. -/
def Cells (w : World) (v : Value) (l : List α) : Prop :=
  (v = .slice none 0 0 ∧ l = []) ∨ ∃ g o cap, v = .slice (some ⟨g, o, none⟩) l.length cap ∧ l.length ≤ cap ∧ cap ≤ maxLen ∧ g < w.heap.size ∧ ∀ j u, (flat enc l)[j]? = some u → w.cell? ⟨g, o + j, none⟩ = some u
/-- .. in a block of that type. -/
structure Row (t : TypeId) (w : World) (v : Value) (l : List α) : Prop where
  cells : Cells enc w v l
  tag : ∀ g, v.ownBlock = some g → ∃ cur fz, w.heap[g]? = some (.cells cur t fz)

variable {enc}
theorem Cells.nil (w : World) : Cells enc w (.slice none 0 0) [] := .inl ⟨rfl, rfl⟩
theorem Row.nil (t : TypeId) (w : World) : Row enc t w (.slice none 0 0) [] := ⟨Cells.nil w, fun g h => by simp [Value.ownBlock] at h⟩
theorem Cells.small {w : World} {v : Value} {l : List α} (h : Cells enc w v l) : l.length ≤ maxLen := by
  rcases h with ⟨_, rfl⟩ | ⟨_, _, _, _, h1, h2, _⟩
  · simp
  · omega
theorem Cells.block {w w' : World} {v : Value} {l : List α} (h : Cells enc w v l) (hs : w.heap.size ≤ w'.heap.size) (k : ∀ g, v.ownBlock = some g → w'.heap[g]? = w.heap[g]?) : Cells enc w' v l := by
  rcases h with ⟨h1, h2⟩ | ⟨g, o, cap, rfl, h1, h2, h3, h4⟩
  · exact .inl ⟨h1, h2⟩
  · exact .inr ⟨g, o, cap, rfl, h1, h2, by omega, fun j u hj => (World.cell?_of_block (w := w) (k g rfl)).trans (h4 j u hj)⟩
theorem Cells.lt {w : World} {v : Value} {l : List α} (h : Cells enc w v l) {g : Nat} (hg : v.ownBlock = some g) : g < w.heap.size := by
  rcases h with ⟨rfl, _⟩ | ⟨g', o, cap, rfl, _, _, h3, _⟩
  · simp [Value.ownBlock] at hg
  · simp [Value.ownBlock] at hg
    omega
theorem Cells.keep {w w' : World} {v : Value} {l : List α} (h : Cells enc w v l) (k : Keep w w') : Cells enc w' v l :=
  h.block k.size fun g hg => k.block g (h.lt hg)
theorem Row.keep {t : TypeId} {w w' : World} {v : Value} {l : List α} (h : Row enc t w v l) (k : Keep w w') : Row enc t w' v l :=
  ⟨h.cells.keep k, fun g hg => by
    obtain ⟨cur, fz, hb⟩ := h.tag g hg
    exact ⟨cur, fz, k.obj hb⟩⟩
theorem Cells.only {w w' : World} {v : Value} {l : List α} {b : Nat} (h : Cells enc w v l) (k : Only b w w') (hb : v.ownBlock ≠ some b) : Cells enc w' v l :=
  h.block k.size fun g hg => k.block g (h.lt hg) (fun e => hb (by rw [hg, e]))
theorem Row.only {t t' : TypeId} {w w' : World} {v : Value} {l : List α} {b : Nat} {c : Array Value} {fz : Nat × Nat} (h : Row enc t w v l) (k : Only b w w') (hb : w.heap[b]? = some (.cells c t' fz)) (ht : t ≠ t') : Row enc t w' v l := by
  have hn : v.ownBlock ≠ some b := fun e => by
    obtain ⟨cur, fz', h1⟩ := h.tag b e
    rw [hb] at h1
    simp at h1
    exact ht h1.2.1.symm
  exact ⟨h.cells.only k hn, fun g hg => by
    obtain ⟨cur, fz, h1⟩ := h.tag g hg
    exact ⟨cur, fz, k.obj h1 (fun e => hn (by rw [hg, e]))⟩⟩

/-- What one has made. -/
theorem Row.owns {t : TypeId} {k : Nat} (hk : ∀ x, (enc x).length = k) {w : World} {B n : Nat} {v : Value} {l : List α} (h : w.ownsRow B t k v n (flat enc l)) (hk0 : 0 < k) : Row enc t w v l ∧ n = l.length := by
  have hn : n = l.length := by
    have := h.1
    rw [flat_len enc hk] at this
    exact (Nat.eq_of_mul_eq_mul_right hk0 this).symm
  refine ⟨⟨?_, ?_⟩, hn⟩
  · rcases h.2 with ⟨h1, h2⟩ | ⟨g, cap, cur, h1, _, h3, h4, h5, h6, h7⟩
    · exact .inl ⟨h1, List.eq_nil_of_length_eq_zero (by omega)⟩
    · refine .inr ⟨g, 0, cap, by rw [h1, hn], by omega, h5, block_lt h3, fun j u hj => ?_⟩
      have hc := h.cells (g := g) (by rw [h1]; rfl) j u hj
      rwa [show (⟨g, 0, none⟩ : Addr).add j = ⟨g, 0 + j, none⟩ from by unfold Addr.add; split <;> simp_all] at hc
  · intro g hg
    rcases h.2 with ⟨h1, _⟩ | ⟨g', cap, cur, h1, _, h3, _⟩
    · rw [h1] at hg; simp [Value.ownBlock] at hg
    · rw [h1] at hg
      simp [Value.ownBlock] at hg
      subst hg
      exact ⟨cur, _, h3⟩

/-- One of them, in whole and in part. -/
theorem Cells.load {P : Program} {k : Nat} (hk : ∀ x, (enc x).length = k) {w : World} {g o cap n : Nat} {l : List α} (h : Cells enc w (.slice (some ⟨g, o, none⟩) l.length cap) l) (j : Nat) (x : α) (hx : l[j]? = some x) (a m : Nat) (L : List Value) (hL : L = ((enc x).drop a).take m) (hm : a + m ≤ k) (hn : n = m) :
    (loadCellsFrom ⟨g, o + j * k + a, none⟩ 0 n #[]).run P w = .ok L.toArray w := by
  have hlen : L.length = n := by rw [hL, hn, List.length_take, List.length_drop, hk]; omega
  subst hlen
  have := run_loadCells_list (P := P) w ⟨g, o + j * k + a, none⟩ L (fun i v hv => by
    have hadd : (⟨g, o + j * k + a, none⟩ : Addr).add i = ⟨g, o + (j * k + (a + i)), none⟩ := by unfold Addr.add; split <;> simp_all <;> omega
    rw [hadd]
    rcases h with ⟨h1, _⟩ | ⟨g', o', cap', h1, _, _, _, h4⟩
    · cases h1
    · simp at h1
      obtain ⟨⟨rfl, rfl⟩, _⟩ := h1
      have hi : i < m := by
        have := (List.getElem?_eq_some_iff.1 hv).1
        omega
      refine h4 _ _ ?_
      rw [flat_get enc hk l j x hx (a + i) (by omega), ← hv, hL, List.getElem?_take, if_pos hi, List.getElem?_drop])
  simpa [loadCells] using this
theorem Cells.cell {k : Nat} (hk : ∀ x, (enc x).length = k) {w : World} {g o cap : Nat} {l : List α} (h : Cells enc w (.slice (some ⟨g, o, none⟩) l.length cap) l) (j : Nat) (x : α) (hx : l[j]? = some x) (a : Nat) (ha : a < k) (u : Value) (hu : (enc x)[a]? = some u) :
    w.cell? ⟨g, o + j * k + a, none⟩ = some u := by
  rcases h with ⟨h1, _⟩ | ⟨g', o', cap', h1, _, _, _, h4⟩
  · cases h1
  · simp at h1
    obtain ⟨⟨rfl, rfl⟩, _⟩ := h1
    rw [Nat.add_assoc]
    exact h4 _ _ (by rw [flat_get enc hk l j x hx a ha, hu])
theorem Cells.ptr {w : World} {v : Value} {l : List α} (h : Cells enc w v l) (j : Nat) (hj : j < l.length) : ∃ g o cap, v = .slice (some ⟨g, o, none⟩) l.length cap ∧ l.length ≤ cap ∧ cap ≤ maxLen ∧ g < w.heap.size := by
  rcases h with ⟨_, rfl⟩ | ⟨g, o, cap, h1, h2, h3, h4, _⟩
  · simp at hj
  · exact ⟨g, o, cap, h1, h2, h3, h4⟩
theorem Cells.form {w : World} {v : Value} {l : List α} (h : Cells enc w v l) : ∃ a cap, v = .slice a l.length cap ∧ l.length ≤ cap ∧ cap ≤ maxLen := by
  rcases h with ⟨h1, rfl⟩ | ⟨g, o, cap, h1, h2, h3, h4, _⟩
  · exact ⟨none, 0, h1, Nat.le_refl _, by simp [maxLen]⟩
  · exact ⟨_, _, h1, h2, h3⟩
/-- A part. -/
theorem Cells.part {k : Nat} (hk : ∀ x, (enc x).length = k) {w : World} {g o cap : Nat} {l : List α} (h : Cells enc w (.slice (Option.some ⟨g, o, none⟩) l.length cap) l) (a b c : Nat) (hab : a ≤ b) (hb : b ≤ l.length) (o' : Nat) (ho : a < b → o' = o + a * k) (hc : b - a ≤ c) (hc2 : c ≤ maxLen) :
    Cells enc w (.slice (Option.some ⟨g, o', none⟩) (b - a) c) ((l.drop a).take (b - a)) := by
  rcases h with ⟨h1, _⟩ | ⟨g', o1, cap', h1, h2, h3, h4, h5⟩
  · cases h1
  · simp at h1
    obtain ⟨⟨rfl, rfl⟩, rfl⟩ := h1
    have hl : ((l.drop a).take (b - a)).length = b - a := by rw [List.length_take, List.length_drop]; omega
    refine .inr ⟨g, o', c, by rw [hl], by rw [hl]; exact hc, hc2, h4, fun j u hj => ?_⟩
    have hj2 := (List.getElem?_eq_some_iff.1 hj).1
    rw [flat_len enc hk, hl] at hj2
    have hlt : a < b := by
      rcases Nat.lt_or_ge a b with h | h
      · exact h
      · rw [show b - a = 0 by omega, Nat.zero_mul] at hj2; omega
    rw [ho hlt, Nat.add_assoc]
    refine h5 _ _ ?_
    rw [← flat_take enc hk, List.getElem?_take, if_pos (by exact hj2), ← flat_drop enc hk, List.getElem?_drop] at hj
    exact hj
theorem Row.part {t : TypeId} {k : Nat} (hk : ∀ x, (enc x).length = k) {w : World} {g o cap : Nat} {l : List α} (h : Row enc t w (.slice (Option.some ⟨g, o, none⟩) l.length cap) l) (a b c : Nat) (hab : a ≤ b) (hb : b ≤ l.length) (o' : Nat) (ho : a < b → o' = o + a * k) (hc : b - a ≤ c) (hc2 : c ≤ maxLen) :
    Row enc t w (.slice (Option.some ⟨g, o', none⟩) (b - a) c) ((l.drop a).take (b - a)) :=
  ⟨h.cells.part hk a b c hab hb o' ho hc hc2, fun g' hg' => h.tag g' (by simpa [Value.ownBlock] using hg')⟩
end

/-! ### Routes -/
structure Rt where
  to : Px
  metric : Int
  seq : Int
  ok : to.addr.length = 16
theorem Rt.ext' {a b : Rt} (h1 : a.to = b.to) (h2 : a.metric = b.metric) (h3 : a.seq = b.seq) : a = b := by
  cases a; cases b; simp at *; exact ⟨h1, h2, h3⟩
instance : DecidableEq Rt := fun a b => decidable_of_iff (a.to = b.to ∧ a.metric = b.metric ∧ a.seq = b.seq) ⟨fun h => Rt.ext' h.1 h.2.1 h.2.2, fun h => by rw [h]; exact ⟨rfl, rfl, rfl⟩⟩
def zeroR : Rt := ⟨zeroP, 0, 0, rfl⟩
instance : Inhabited Rt := ⟨zeroR⟩
def rl (r : Rt) : List Value := (pc r.to).toList ++ [.int .i64 r.metric, .int .u32 r.seq]
def rc (r : Rt) : Array Value := (rl r).toArray
theorem pcl (p : Px) (h : p.addr.length = 16) : (pc p).toList.length = 18 := by rw [Array.length_toList, pc_size p h]
theorem rl_len (r : Rt) : (rl r).length = 20 := by rw [rl, List.length_append, pcl _ r.ok]; rfl
theorem rc_size (r : Rt) : (rc r).size = 20 := by simp [rc, rl_len]
theorem rl_to (r : Rt) : ((rl r).drop 0).take 18 = (pc r.to).toList := by rw [List.drop_zero, rl, List.take_append_of_le_length (by rw [pcl _ r.ok]; exact Nat.le_refl _), List.take_of_length_le (by rw [pcl _ r.ok]; exact Nat.le_refl _)]
theorem rl_metric (r : Rt) : (rl r)[18]? = some (.int .i64 r.metric) := by rw [rl, List.getElem?_append_right (by rw [pcl _ r.ok]; exact Nat.le_refl _), pcl _ r.ok]; rfl
theorem rl_seq (r : Rt) : (rl r)[19]? = some (.int .u32 r.seq) := by rw [rl, List.getElem?_append_right (by rw [pcl _ r.ok]; omega), pcl _ r.ok]; rfl
theorem rc_metric (r : Rt) : (rc r)[18]? = some (.int .i64 r.metric) := by simpa [rc] using rl_metric r
theorem rc_seq (r : Rt) : (rc r)[19]? = some (.int .u32 r.seq) := by simpa [rc] using rl_seq r
theorem rl_whole (r : Rt) : rl r = ((rl r).drop 0).take 20 := by rw [List.drop_zero, List.take_of_length_le (by rw [rl_len]; exact Nat.le_refl _)]
theorem rl_one (r : Rt) : ∀ v ∈ rl r, v.oneCell' = true := by
  intro v hv
  rw [rl, List.mem_append] at hv
  rcases hv with h | h
  · exact pc_one r.to v h
  · simp at h
    rcases h with rfl | rfl <;> rfl
theorem flat_one' {α : Type} {enc : α → List Value} (h : ∀ x, ∀ v ∈ enc x, v.oneCell' = true) (l : List α) : ∀ v ∈ flat enc l, v.oneCell' = true := by
  intro v hv
  simp only [flat, List.mem_flatMap] at hv
  obtain ⟨x, _, hx⟩ := hv
  exact h x v hx

/-- A route lies in block b. -/
def RAt (w : World) (b : Nat) (r : Rt) : Prop := w.heap[b]? = some (.cells (rc r) 37 (0, 0))
theorem RAt.keep {w w' : World} {b : Nat} {r : Rt} (h : RAt w b r) (k : Keep w w') : RAt w' b r := k.obj h
theorem RAt.metric {w : World} {b : Nat} {r : Rt} (h : RAt w b r) : w.cell? ⟨b, 18, none⟩ = some (.int .i64 r.metric) := cell_obj h (rc_metric r)
theorem RAt.seq {w : World} {b : Nat} {r : Rt} (h : RAt w b r) : w.cell? ⟨b, 19, none⟩ = some (.int .u32 r.seq) := cell_obj h (rc_seq r)
theorem RAt.whole {w : World} {b n : Nat} {r : Rt} (h : RAt w b r) (hn : n = 20) : (loadCellsFrom ⟨b, 0, none⟩ 0 n #[]).run Try.prog w = .ok (rc r) w := load_block n (by rw [rc_size, hn]) h
theorem RAt.to {w : World} {b n : Nat} {r : Rt} (h : RAt w b r) (hn : n = 18) : (loadCellsFrom ⟨b, 0, none⟩ 0 n #[]).run Try.prog w = .ok (pc r.to) w := by
  have := load_part (P := Try.prog) (o := 0) (n := n) (pc r.to).toList (by rw [pcl _ r.ok, hn]) h (fun j v hv => by
    have hj := (List.getElem?_eq_some_iff.1 hv).1
    simp only [rc, rl, Nat.zero_add, List.getElem?_toArray]
    rw [List.getElem?_append_left hj, hv])
  simpa using this
theorem RAt.new (w : World) (r : Rt) : RAt (w.alloc (.cells (rc r) 37)) w.heap.size r := heap_alloc_last w _
end Go.Proofs.Ytfikdeobejhblaa

/- Proved: what table's order and Right, and the document's Right answer; routes compared by the language's own '=='. No condition. -/
namespace Go.Proofs.Ytfikdeobejhblaa
open Go.RowKit

def rightR (r : Rt) : Prop := rightP r.to ∧ 0 ≤ r.metric ∧ r.metric < 65535
instance (r : Rt) : Decidable (rightR r) := by unfold rightR; infer_instance

theorem two_rt (w : World) (a b : Rt) : RAt ((w.alloc (.cells (rc a) 37)).alloc (.cells (rc b) 37)) w.heap.size a ∧ RAt ((w.alloc (.cells (rc a) 37)).alloc (.cells (rc b) 37)) (w.heap.size + 1) b ∧ Same w ((w.alloc (.cells (rc a) 37)).alloc (.cells (rc b) 37)) := by
  have hs : (w.alloc (.cells (rc a) 37)).heap.size = w.heap.size + 1 := by simp
  refine ⟨alloc_old (RAt.new w a) _, ?_, ((Same.refl w).alloc _).alloc _⟩
  rw [← hs]
  exact RAt.new _ _

set_option maxRecDepth 100000 in
theorem order (a b : Rt) : Gives Try.prog 44 #[.agg (rc a), .agg (rc b)] (.int .i64 (cmpP a.to b.to)) := by
  intro w
  obtain ⟨hA, hB, hS⟩ := two_rt w a b
  have HC := Lib.hid (compare a.to b.to a.ok b.ok)
  obtain ⟨n, hn⟩ : ∃ n, n = 18 := ⟨18, rfl⟩
  have hsz : ∀ w, (Go.sizeOf 34).run Try.prog w = .ok n w := fun w => by rw [hn]; exact Try.sizeOf34 w
  have hn0 : ¬ n = 0 := by omega
  have h1 := hA.to hn
  have h2 := hB.to hn
  have HS := Lib.hid hS
  have HN := Lib.hid hn
  clear hA hB hS hn
  generalize cmpP a.to b.to = z at *
  generalize pc a.to = A at *
  generalize pc b.to = B at *
  go_enter Try.func44, Try.ntmps44
  go_wp2_with fail
  refine (HC.out _).mono ?_
  rintro e w1 ⟨rfl, b1⟩
  go_wp2
  go_ret
  exact ⟨rfl, HS.out.trans b1⟩

set_option maxRecDepth 100000 in
theorem rightT (r : Rt) : Gives Try.prog 41 #[.agg (rc r)] (.bool (decide (rightR r))) := by
  intro w
  have hA := RAt.new w r
  have hS : Same w (w.alloc (.cells (rc r) 37)) := (Same.refl w).alloc _
  have HC := Lib.hid (right r.to r.ok)
  obtain ⟨n, hn⟩ : ∃ n, n = 18 := ⟨18, rfl⟩
  have hsz : ∀ w, (Go.sizeOf 34).run Try.prog w = .ok n w := fun w => by rw [hn]; exact Try.sizeOf34 w
  have hn0 : ¬ n = 0 := by omega
  have h1 := hA.to hn
  have HS := Lib.hid hS
  have HA := Lib.hid hA
  have HN := Lib.hid hn
  have HR : Hid (decide (rightR r) = (decide (rightP r.to) && (decide (0 ≤ r.metric) && decide (r.metric < 65535)))) := by
    show decide (rightR r) = _
    rw [Bool.eq_iff_iff, decide_eq_true_eq]
    simp only [Bool.and_eq_true, decide_eq_true_eq]
    exact Iff.rfl
  clear hA hS hn
  generalize decide (rightR r) = z at *
  generalize pc r.to = A at *
  generalize decide (rightP r.to) = q at *
  go_enter Try.func41, Try.ntmps41
  go_wp2_with fail
  refine (HC.out _).mono ?_
  rintro e w1 ⟨rfl, b1⟩
  have hm := (HA.out.keep b1.keep).metric
  clear HC h1
  generalize r.metric = m at *
  cases q
  · go_wp2
    go_ret
    exact ⟨by rw [HR.out]; rfl, HS.out.trans b1⟩
  · by_cases h0 : 0 ≤ m
    · have hd : decide (0 ≤ m) = true := by simpa using h0
      rw [hd] at HR
      go_wp2
      go_ret
      exact ⟨by rw [HR.out]; rfl, HS.out.trans b1⟩
    · have hd : decide (0 ≤ m) = false := by simpa using h0
      rw [hd] at HR
      go_wp2
      go_ret
      exact ⟨by rw [HR.out]; rfl, HS.out.trans b1⟩

set_option maxRecDepth 100000 in
theorem qrightT (r : Rt) : Gives Try.prog 38 #[.agg (rc r)] (.bool (decide (rightR r))) := by
  intro w
  have hA := RAt.new w r
  have hS : Same w (w.alloc (.cells (rc r) 37)) := (Same.refl w).alloc _
  have HC := Lib.hid (qright r.to r.ok)
  obtain ⟨n, hn⟩ : ∃ n, n = 18 := ⟨18, rfl⟩
  have hsz : ∀ w, (Go.sizeOf 34).run Try.prog w = .ok n w := fun w => by rw [hn]; exact Try.sizeOf34 w
  have hn0 : ¬ n = 0 := by omega
  have h1 := hA.to hn
  have HS := Lib.hid hS
  have HA := Lib.hid hA
  have HN := Lib.hid hn
  have HR : Hid (decide (rightR r) = (decide (rightP r.to) && (decide (0 ≤ r.metric) && decide (r.metric < 65535)))) := by
    show decide (rightR r) = _
    rw [Bool.eq_iff_iff, decide_eq_true_eq]
    simp only [Bool.and_eq_true, decide_eq_true_eq]
    exact Iff.rfl
  clear hA hS hn
  generalize decide (rightR r) = z at *
  generalize pc r.to = A at *
  generalize decide (rightP r.to) = q at *
  go_enter Try.func38, Try.ntmps38
  go_wp2_with fail
  refine (HC.out _).mono ?_
  rintro e w1 ⟨rfl, b1⟩
  have hm := (HA.out.keep b1.keep).metric
  clear HC h1
  generalize r.metric = m at *
  cases q
  · go_wp2
    go_ret
    exact ⟨by rw [HR.out]; rfl, HS.out.trans b1⟩
  · by_cases h0 : 0 ≤ m
    · have hd : decide (0 ≤ m) = true := by simpa using h0
      rw [hd] at HR
      go_wp2
      go_ret
      exact ⟨by rw [HR.out]; rfl, HS.out.trans b1⟩
    · have hd : decide (0 ≤ m) = false := by simpa using h0
      rw [hd] at HR
      go_wp2
      go_ret
      exact ⟨by rw [HR.out]; rfl, HS.out.trans b1⟩

theorem eq_pcd (d : Nat) (p q : Px) (hp : p.addr.length = 16) (hq : q.addr.length = 16) (w : World) : (Op.equalIn (d + 4) 34 (.agg (pc p)) (.agg (pc q))).run Try.prog w = .ok (decide (p = q)) w := by
  have a0 := pc_six p
  have a17 := pc_len p hp
  have a1 := pc_ext p hp
  have b0 := pc_six q
  have b17 := pc_len q hq
  have b1 := pc_ext q hq
  have he := eq_ac (d + 1) p.addr q.addr hp hq
  rw [run_equalIn_struct (P := Try.prog) w (d + 3) 34 _ _ (by kernel_rfl) (by kernel_rfl)]
  have e : decide (p = q) = (decide (p.six = q.six) && (decide (p.addr = q.addr) && decide (p.len = q.len))) := by
    rw [Bool.eq_iff_iff]
    simp only [Bool.and_eq_true, decide_eq_true_eq]
    constructor
    · intro h; rw [h]; simp
    · intro h; cases p; cases q; simp at h; simp [h]
  rw [e]
  generalize pc p = A at *
  generalize pc q = B at *
  have hf : (Try.prog.fieldsOf 34).toList = [{ name := "Six", type := 4, offset := 0, embedded := false, tag := "", pkgPath := "", byteOffset := 0 }, { name := "Addr", type := 32, offset := 1, embedded := false, tag := "", pkgPath := "", byteOffset := 1 }, { name := "Len", type := 3, offset := 17, embedded := false, tag := "", pkgPath := "", byteOffset := 24 }] := by kernel_rfl
  rw [hf]
  simp only [Op.eqFields]
  go_simp
  by_cases h1 : p.six = q.six <;> by_cases h2 : p.addr = q.addr <;> by_cases h3 : p.len = q.len <;> simp [h1, h2, h3]
theorem rc_ext (r : Rt) : (rc r).extract 0 18 = pc r.to := by
  apply Array.ext'
  simp only [Array.toList_extract, rc]
  rw [List.extract_eq_take_drop]
  simpa using rl_to r
theorem eq_rc (d : Nat) (a b : Rt) (w : World) : (Op.equalIn (d + 5) 37 (.agg (rc a)) (.agg (rc b))).run Try.prog w = .ok (decide (a = b)) w := by
  have a0 := rc_ext a
  have a18 := rc_metric a
  have a19 := rc_seq a
  have b0 := rc_ext b
  have b18 := rc_metric b
  have b19 := rc_seq b
  have he := eq_pcd d a.to b.to a.ok b.ok
  rw [run_equalIn_struct (P := Try.prog) w (d + 4) 37 _ _ (by kernel_rfl) (by kernel_rfl)]
  have e : decide (a = b) = (decide (a.to = b.to) && (decide (a.metric = b.metric) && decide (a.seq = b.seq))) := by
    rw [Bool.eq_iff_iff]
    simp only [Bool.and_eq_true, decide_eq_true_eq]
    constructor
    · intro h; rw [h]; simp
    · intro h; exact Rt.ext' h.1 h.2.1 h.2.2
  rw [e]
  generalize rc a = A at *
  generalize rc b = B at *
  generalize pc a.to = A2 at *
  generalize pc b.to = B2 at *
  have hf : (Try.prog.fieldsOf 37).toList = [{ name := "To", type := 34, offset := 0, embedded := false, tag := "", pkgPath := "", byteOffset := 0 }, { name := "Metric", type := 3, offset := 18, embedded := false, tag := "", pkgPath := "", byteOffset := 32 }, { name := "Seq", type := 35, offset := 19, embedded := false, tag := "", pkgPath := "", byteOffset := 40 }] := by kernel_rfl
  rw [hf]
  simp only [Op.eqFields]
  go_simp
  by_cases h1 : a.to = b.to <;> by_cases h2 : a.metric = b.metric <;> by_cases h3 : a.seq = b.seq <;> simp [h1, h2, h3]
end Go.Proofs.Ytfikdeobejhblaa

/- Proved: plain mathematics of tables: lists of routes in the order of their prefixes, a prefix's place, what is put in and what is left out. No condition. -/
namespace Go.Proofs.Ytfikdeobejhblaa
open Go.RowKit

def toP (p : Px) : X.P := ⟨p.six, X.num p.addr, p.len⟩
theorem toP_inj (p q : Px) (hp : p.addr.length = 16) (hq : q.addr.length = 16) (h : toP p = toP q) : p = q := by
  obtain ⟨s, l, n⟩ := p
  obtain ⟨t, m, k⟩ := q
  simp only [toP, X.P.mk.injEq] at h
  obtain ⟨rfl, h2, rfl⟩ := h
  rw [X.num_inj l m (by simp only at hp hq; omega) h2]
theorem cmp_toP (p q : Px) (hp : p.addr.length = 16) (hq : q.addr.length = 16) : cmpP p q = X.cmp (toP p) (toP q) := by
  have hn := X.lex_num p.addr q.addr (by omega)
  have hz : X.lex p.addr q.addr = 0 ↔ X.num p.addr = X.num q.addr := by
    rw [hn]
    unfold X.cmpI
    constructor
    · intro h
      split at h
      · omega
      · split at h <;> omega
    · intro h
      rw [h]
      simp
  unfold cmpP X.cmp toP
  by_cases hs : p.six = q.six
  · by_cases he : X.num p.addr = X.num q.addr
    · simp [hs, he, hz.2 he]
    · have h0 : ¬ X.lex p.addr q.addr = 0 := fun h => he (hz.1 h)
      rw [if_pos hs, if_neg h0]
      simp [hs, he, hn]
  · simp [hs]

/-- Prefixes of sixteen bytes. -/
abbrev L16 (p : Px) : Prop := p.addr.length = 16
theorem cmp_neg {p q : Px} (hp : L16 p) (hq : L16 q) : cmpP p q = - cmpP q p := by rw [cmp_toP p q hp hq, cmp_toP q p hq hp, X.cmp_neg]
theorem cmp_zero {p q : Px} (hp : L16 p) (hq : L16 q) : cmpP p q = 0 ↔ p = q := by
  rw [cmp_toP p q hp hq, X.cmp_zero]
  exact ⟨toP_inj p q hp hq, fun h => by rw [h]⟩
theorem cmp_lt_trans {p q r : Px} (hp : L16 p) (hq : L16 q) (hr : L16 r) (h1 : cmpP p q < 0) (h2 : cmpP q r < 0) : cmpP p r < 0 := by
  have h3 : cmpP p r ≤ 0 := by
    rw [cmp_toP p r hp hr]
    exact X.cmp_trans _ (toP q) _ (by rw [← cmp_toP p q hp hq]; omega) (by rw [← cmp_toP q r hq hr]; omega)
  have h4 : cmpP p r ≠ 0 := fun h => by
    have := (cmp_zero hp hr).1 h
    subst this
    rw [cmp_neg hq hp] at h2
    omega
  omega
theorem cmp_le_trans {p q r : Px} (hp : L16 p) (hq : L16 q) (hr : L16 r) (h1 : cmpP p q ≤ 0) (h2 : cmpP q r ≤ 0) : cmpP p r ≤ 0 := by
  rw [cmp_toP p r hp hr]
  exact X.cmp_trans _ (toP q) _ (by rw [← cmp_toP p q hp hq]; omega) (by rw [← cmp_toP q r hq hr]; omega)
theorem cmp_fits (p q : Px) : cmpP p q = -1 ∨ cmpP p q = 0 ∨ cmpP p q = 1 := by
  have h := lex_fits p.addr q.addr
  unfold cmpP X.cmpI
  repeat' split
  all_goals omega

/-- In the order of their prefixes, one a prefix. -/
def Sorted (l : List Rt) : Prop := l.Pairwise fun a b => cmpP a.to b.to < 0
/-- Where the route to a prefix stands, or would stand. -/
def rank (l : List Rt) (p : Px) : Nat := (l.takeWhile fun r => decide (cmpP r.to p < 0)).length
def hasP (l : List Rt) (p : Px) : Bool := l.any fun r => decide (r.to = p)

theorem rank_le (l : List Rt) (p : Px) : rank l p ≤ l.length := (List.takeWhile_sublist _).length_le
theorem rank_nil (p : Px) : rank [] p = 0 := rfl
theorem rank_cons (a : Rt) (l : List Rt) (p : Px) : rank (a :: l) p = if cmpP a.to p < 0 then rank l p + 1 else 0 := by
  unfold rank
  by_cases h : cmpP a.to p < 0 <;> simp [h]
theorem Sorted.tail {a : Rt} {l : List Rt} (h : Sorted (a :: l)) : Sorted l := (List.pairwise_cons.1 h).2
theorem Sorted.head {a : Rt} {l : List Rt} (h : Sorted (a :: l)) : ∀ b ∈ l, cmpP a.to b.to < 0 := (List.pairwise_cons.1 h).1
theorem Sorted.nil : Sorted [] := List.Pairwise.nil

theorem lt_rank {l : List Rt} (hs : Sorted l) {p : Px} (hp : L16 p) (h : Nat) (r : Rt) (hr : l[h]? = some r) : cmpP r.to p < 0 ↔ h < rank l p := by
  induction l generalizing h with
  | nil => simp at hr
  | cons a l ih =>
    rw [rank_cons]
    cases h with
    | zero =>
      simp at hr
      subst hr
      by_cases hc : cmpP a.to p < 0 <;> simp [hc]
    | succ h =>
      simp at hr
      have hm : r ∈ l := List.mem_of_getElem? hr
      have h1 := hs.head r hm
      by_cases hc : cmpP a.to p < 0
      · rw [if_pos hc, ih hs.tail h hr]
        omega
      · rw [if_neg hc]
        constructor
        · intro h2
          exact absurd (cmp_lt_trans a.ok r.ok hp h1 h2) hc
        · omega
theorem has_rank {l : List Rt} (hs : Sorted l) {p : Px} (hp : L16 p) : hasP l p = true ↔ ∃ r, l[rank l p]? = some r ∧ r.to = p := by
  constructor
  · intro h
    simp only [hasP, List.any_eq_true, decide_eq_true_eq] at h
    obtain ⟨r, hm, hr⟩ := h
    obtain ⟨j, hj, he⟩ := List.mem_iff_getElem.1 hm
    have hj2 : l[j]? = some r := by rw [← he]; exact List.getElem?_eq_getElem hj
    have h0 : cmpP r.to p = 0 := (cmp_zero r.ok hp).2 hr
    have h1 := lt_rank hs hp j r hj2
    have h2 : rank l p = j := by
      rcases Nat.lt_or_ge (rank l p) j with h3 | h3
      · obtain ⟨b, hb⟩ : ∃ b, l[rank l p]? = some b := ⟨_, List.getElem?_eq_getElem (Nat.lt_trans h3 hj)⟩
        have h4 := lt_rank hs hp _ b hb
        have h5 : cmpP b.to r.to < 0 := by
          have hlt : rank l p < l.length := Nat.lt_trans h3 hj
          have := List.pairwise_iff_getElem.1 hs (rank l p) j hlt hj h3
          rw [he] at this
          rw [List.getElem?_eq_getElem hlt] at hb
          simp at hb
          rwa [hb] at this
        rw [hr] at h5
        have := h4.1 h5
        omega
      · omega
    rw [h2]
    exact ⟨r, hj2, hr⟩
  · rintro ⟨r, h1, h2⟩
    simp only [hasP, List.any_eq_true, decide_eq_true_eq]
    exact ⟨r, List.mem_of_getElem? h1, h2⟩
theorem get_rank {l : List Rt} (hs : Sorted l) {p : Px} (hp : L16 p) (r : Rt) (h : l[rank l p]? = some r) : hasP l p = decide (cmpP r.to p = 0) := by
  rw [Bool.eq_iff_iff, decide_eq_true_eq, cmp_zero r.ok hp, has_rank hs hp]
  constructor
  · rintro ⟨s, h1, h2⟩
    rw [h] at h1
    simp at h1
    rw [h1]
    exact h2
  · exact fun h2 => ⟨r, h, h2⟩
theorem no_rank {l : List Rt} (hs : Sorted l) {p : Px} (hp : L16 p) (h : l.length ≤ rank l p) : hasP l p = false := by
  cases hh : hasP l p
  · rfl
  · obtain ⟨r, h1, _⟩ := (has_rank hs hp).1 hh
    rw [List.getElem?_eq_none h] at h1
    cases h1
/-- All ahead of the place are ahead of the prefix. -/
theorem take_rank {l : List Rt} (hs : Sorted l) {p : Px} (hp : L16 p) : ∀ a ∈ l.take (rank l p), cmpP a.to p < 0 := by
  intro a ha
  obtain ⟨j, hj, he⟩ := List.mem_iff_getElem.1 ha
  rw [List.length_take] at hj
  rw [List.getElem_take] at he
  exact (lt_rank hs hp j a (by rw [← he]; exact List.getElem?_eq_getElem _)).2 (by omega)
theorem drop_rank {l : List Rt} (hs : Sorted l) {p : Px} (hp : L16 p) : ∀ a ∈ l.drop (rank l p), 0 ≤ cmpP a.to p := by
  intro a ha
  obtain ⟨j, hj, he⟩ := List.mem_iff_getElem.1 ha
  rw [List.getElem_drop] at he
  have := lt_rank hs hp (rank l p + j) a (by rw [← he]; exact List.getElem?_eq_getElem _)
  have h2 : ¬ cmpP a.to p < 0 := fun h => by have := this.1 h; omega
  omega
theorem Sorted.sub {l m : List Rt} (h : Sorted l) (k : m.Sublist l) : Sorted m := List.Pairwise.sublist k h
/-- All behind the place, where there is none; behind it, where there is one: behind the prefix. -/
theorem behind_no {l : List Rt} (hs : Sorted l) {p : Px} (hp : L16 p) (hh : hasP l p = false) : ∀ a ∈ l.drop (rank l p), 0 < cmpP a.to p := by
  intro a ha
  have h1 := drop_rank hs hp a ha
  have h2 : cmpP a.to p ≠ 0 := fun h => by
    have h3 := (cmp_zero a.ok hp).1 h
    have : hasP l p = true := by
      simp only [hasP, List.any_eq_true, decide_eq_true_eq]
      exact ⟨a, List.mem_of_mem_drop ha, h3⟩
    rw [hh] at this
    cases this
  omega
theorem behind_yes {l : List Rt} (hs : Sorted l) {p : Px} (hp : L16 p) (hh : hasP l p = true) : ∀ a ∈ l.drop (rank l p + 1), 0 < cmpP a.to p := by
  intro a ha
  obtain ⟨r, h1, h2⟩ := (has_rank hs hp).1 hh
  obtain ⟨hlt, he⟩ := List.getElem?_eq_some_iff.1 h1
  have hd : l.drop (rank l p) = r :: l.drop (rank l p + 1) := by rw [List.drop_eq_getElem_cons hlt, he]
  have h3 : Sorted (r :: l.drop (rank l p + 1)) := by rw [← hd]; exact hs.sub (List.drop_sublist _ _)
  have := h3.head a ha
  rw [h2, cmp_neg hp a.ok] at this
  omega

/-! ### What is put in -/
def putL (l : List Rt) (r : Rt) : List Rt := l.take (rank l r.to) ++ r :: l.drop (if hasP l r.to then rank l r.to + 1 else rank l r.to)
def cutP (l : List Rt) (p : Px) : List Rt := l.take (rank l p) ++ l.drop (rank l p + 1)
def putS (l : List Rt) (r : Rt) : List Rt × Int :=
  if rightR r then (if hasP l r.to then (putL l r, 0) else if 300 ≤ l.length then (l, 7) else (putL l r, 0)) else (l, 1)
def dropS (l : List Rt) (p : Px) : List Rt × Int := if hasP l p then (cutP l p, 0) else (l, 8)
def wd (r : Rt) : Rt := ⟨r.to, 0, 0, r.ok⟩
def doS (l : List Rt) (k : Int) (r : Rt) : List Rt × Int :=
  if k = 1 then (if rightR r then (if hasP l r.to then (l, 9) else putS l r) else (l, 1))
  else if k = 2 then (if rightR r then (if hasP l r.to then putS l r else (l, 8)) else (l, 1))
  else if k = 3 then (if rightP r.to ∧ r = wd r then dropS l r.to else (l, 1))
  else (l, 1)
def getS (l : List Rt) (p : Px) : Rt := if hasP l p then l.getD (rank l p) zeroR else zeroR

theorem sorted_join {a b : List Rt} {p : Px} (hp : L16 p) (h1 : Sorted a) (h2 : Sorted b) (k1 : ∀ x ∈ a, cmpP x.to p < 0) (k2 : ∀ x ∈ b, 0 ≤ cmpP x.to p) : Sorted (a ++ b) := by
  refine List.pairwise_append.2 ⟨h1, h2, fun x hx y hy => ?_⟩
  have hx' := k1 x hx
  have hy' := k2 y hy
  by_cases h0 : cmpP y.to p = 0
  · rw [(cmp_zero y.ok hp).1 h0]
    exact hx'
  · exact cmp_lt_trans x.ok hp y.ok hx' (by rw [cmp_neg hp y.ok]; omega)
theorem put_behind {l : List Rt} (hs : Sorted l) (r : Rt) : ∀ a ∈ l.drop (if hasP l r.to then rank l r.to + 1 else rank l r.to), 0 < cmpP a.to r.to := by
  split
  · rename_i h
    exact behind_yes hs r.ok h
  · rename_i h
    exact behind_no hs r.ok (by simpa using h)
theorem putL_sorted {l : List Rt} (hs : Sorted l) (r : Rt) : Sorted (putL l r) := by
  unfold putL
  have hb := put_behind hs r
  refine sorted_join r.ok (hs.sub (List.take_sublist _ _)) ?_ (take_rank hs r.ok) ?_
  · refine List.pairwise_cons.2 ⟨fun b hbm => ?_, hs.sub (List.drop_sublist _ _)⟩
    have := hb b hbm
    rw [cmp_neg r.ok b.ok]
    omega
  · intro x hx
    rcases List.mem_cons.1 hx with rfl | hx
    · rw [(cmp_zero x.ok x.ok).2 rfl]
      exact Int.le_refl _
    · have := hb x hx
      omega
theorem cutP_sorted {l : List Rt} (hs : Sorted l) (p : Px) : Sorted (cutP l p) := by
  refine hs.sub ?_
  unfold cutP
  conv => rhs; rw [← List.take_append_drop (rank l p) l]
  exact (List.Sublist.refl _).append (by rw [← List.drop_drop]; exact List.drop_sublist _ _)
theorem has_lt {l : List Rt} (hs : Sorted l) {p : Px} (hp : L16 p) (hh : hasP l p = true) : rank l p < l.length := by
  obtain ⟨r, h1, _⟩ := (has_rank hs hp).1 hh
  exact (List.getElem?_eq_some_iff.1 h1).1
theorem putL_len {l : List Rt} (hs : Sorted l) (r : Rt) : (putL l r).length = if hasP l r.to then l.length else l.length + 1 := by
  have h1 := rank_le l r.to
  unfold putL
  rw [List.length_append, List.length_cons, List.length_take, List.length_drop]
  split
  · rename_i h
    have := has_lt hs r.ok h
    omega
  · omega
theorem cutP_len {l : List Rt} (hs : Sorted l) {p : Px} (hp : L16 p) (hh : hasP l p = true) : (cutP l p).length + 1 = l.length := by
  have := has_lt hs hp hh
  unfold cutP
  rw [List.length_append, List.length_take, List.length_drop]
  omega
theorem putS_ok {l : List Rt} (hs : Sorted l) (hl : l.length ≤ 300) (r : Rt) : Sorted (putS l r).1 ∧ (putS l r).1.length ≤ 300 := by
  have h1 := putL_sorted hs r
  have h2 := putL_len hs r
  unfold putS
  split
  · split
    · rename_i h
      rw [if_pos h] at h2
      exact ⟨h1, by dsimp only; omega⟩
    · rename_i h
      rw [if_neg h] at h2
      split
      · exact ⟨hs, hl⟩
      · exact ⟨h1, by dsimp only; omega⟩
  · exact ⟨hs, hl⟩
theorem dropS_ok {l : List Rt} (hs : Sorted l) (hl : l.length ≤ 300) {p : Px} (hp : L16 p) : Sorted (dropS l p).1 ∧ (dropS l p).1.length ≤ 300 := by
  unfold dropS
  split
  · rename_i h
    have := cutP_len hs hp h
    exact ⟨cutP_sorted hs p, by dsimp only; omega⟩
  · exact ⟨hs, hl⟩
theorem doS_ok {l : List Rt} (hs : Sorted l) (hl : l.length ≤ 300) (k : Int) (r : Rt) : Sorted (doS l k r).1 ∧ (doS l k r).1.length ≤ 300 := by
  have h1 := putS_ok hs hl r
  have h2 := dropS_ok hs hl r.ok
  unfold doS
  repeat' split
  all_goals first | exact h1 | exact h2 | exact ⟨hs, hl⟩
end Go.Proofs.Ytfikdeobejhblaa

/- Proved: structs and lists of structs made by literals: routes, changes, tables. No condition. -/
namespace Go.Proofs.Ytfikdeobejhblaa
open Go.RowKit

theorem fill_one (place : Nat → Option (Nat × Nat)) (A : Array Value) (i off : Nat) (v : Value) (rest : List (Nat × Value)) (hpl : place i = some (off, v.cells.size)) (h : off + v.cells.size ≤ A.size) :
    Instr.fill place A ((i, v) :: rest) = Instr.fill place (A.toList.take off ++ v.cells.toList ++ A.toList.drop (off + v.cells.size)).toArray rest := by
  have hf := fold_sets off v.cells.toList 0 A (by simpa using h)
  rw [Instr.fill, hpl]
  simp only
  rw [if_neg (by simp; omega)]
  congr 1
  rw [← Array.foldl_toList, Array.toList_zipIdx]
  simpa using hf
theorem built_struct {P : Program} {t : TypeId} {parts : List (Nat × Value)} {it : TypeInfo} {fields : Array Field} {z : Value} {places : List (Nat × Nat)} (hi : P.info? t = some it) (hu : P.underlying t = some (.struct fields)) (hz : it.zero = some z)
    (hp : fields.toList.mapM (fun f => (P.info? f.type).map fun i => (f.offset, i.size)) = some places) : P.built t parts = Instr.fill (places.toArray[·]?) z.cells parts := by
  simp only [Program.built, hi, hu, hz, hp]

theorem info34 : (Try.prog.info? 37).map (fun i => (i.zero, i.size, i.bytes)) = some (some (.agg (rc zeroR)), 20, 48) := by kernel_rfl
theorem under34 : (Try.prog.underlying 37).bind (fun d => match d with | .struct fs => fs.toList.mapM (fun f => (Try.prog.info? f.type).map fun i => (f.offset, i.size)) | _ => none) = some [(0, 18), (18, 1), (19, 1)] := by kernel_rfl
theorem built34 (parts : List (Nat × Value)) : Try.prog.built 37 parts = Instr.fill (([(0, 18), (18, 1), (19, 1)] : List (Nat × Nat)).toArray[·]?) (rc zeroR) parts := by
  obtain ⟨it, hi, hz⟩ : ∃ it, Try.prog.info? 37 = some it ∧ it.zero = some (.agg (rc zeroR)) := by
    have := info34
    cases h : Try.prog.info? 37 with
    | none => rw [h] at this; simp at this
    | some it => rw [h] at this; simp at this; exact ⟨it, rfl, this.1⟩
  have hu := under34
  cases h : Try.prog.underlying 37 with
  | none => rw [h] at hu; simp at hu
  | some d =>
    rw [h] at hu
    cases d <;> simp at hu
    rename_i fs
    exact built_struct (z := .agg (rc zeroR)) hi h hz (by simpa using hu)
theorem rc_of (p : Px) (m s : Int) (hp : p.addr.length = 16) : rc ⟨p, m, s, hp⟩ = ((pc p).toList ++ [Value.int .i64 m, Value.int .u32 s]).toArray := rfl
theorem zero_take : (rc zeroR).toList = (pc zeroP).toList ++ [Value.int .i64 0, Value.int .u32 0] := rfl

theorem build_to (p : Px) (hp : p.addr.length = 16) (w : World) : (Instr.build 37 #[(0, .agg (pc p))]).run Try.prog w = .ok (.agg (rc ⟨p, 0, 0, hp⟩)) w := by
  refine run_build w 37 _ _ ?_
  rw [built34]
  have hs := pc_size p hp
  rw [fill_one _ _ 0 0 _ _ (by simp [Value.cells, hs]) (by simp [Value.cells, hs, rc_size])]
  rw [Instr.fill, zero_take, rc_of]
  simp only [Value.cells, hs, List.take_zero, List.nil_append, Nat.zero_add]
  rw [List.drop_left' (by rw [pcl _ zeroP_len])]
theorem build_no (w : World) : (Instr.build 37 #[]).run Try.prog w = .ok (.agg (rc zeroR)) w := by
  refine run_build w 37 _ _ ?_
  rw [built34]
  rfl
theorem build_way (p : Px) (hp : p.addr.length = 16) (m : Int) (w : World) : (Instr.build 37 #[(0, .agg (pc p)), (1, .int .i64 m)]).run Try.prog w = .ok (.agg (rc ⟨p, m, 0, hp⟩)) w := by
  refine run_build w 37 _ _ ?_
  rw [built34]
  have hs := pc_size p hp
  rw [fill_one _ _ 0 0 _ _ (by simp [Value.cells, hs]) (by simp [Value.cells, hs, rc_size])]
  simp only [Value.cells, hs, List.take_zero, List.nil_append, Nat.zero_add]
  rw [zero_take, List.drop_left' (by rw [pcl _ zeroP_len])]
  rw [fill_one _ _ 1 18 _ _ (by simp [Value.cells]) (by simp [Value.cells, hs])]
  rw [Instr.fill, rc_of]
  simp only [Value.cells]
  rw [List.take_left' (by rw [pcl _ hp]), List.drop_append, pcl _ hp]
  simp [hs]
theorem build_metric (m : Int) (w : World) : (Instr.build 37 #[(1, .int .i64 m)]).run Try.prog w = .ok (.agg (rc ⟨zeroP, m, 0, zeroP_len⟩)) w := by
  refine run_build w 37 _ _ ?_
  rw [built34]
  rw [fill_one _ _ 1 18 _ _ (by simp [Value.cells]) (by simp [Value.cells, rc_size])]
  rw [Instr.fill, zero_take, rc_of]
  simp only [Value.cells]
  rw [List.take_left' (by rw [pcl _ zeroP_len]), List.drop_append, pcl _ zeroP_len]
  simp [pcl zeroP zeroP_len]

/-! ### The operations in a walk -/
section
variable {P : Program} {ops : Array Oper} {rest : List Oper} {o : Oper} {a : Act}
theorem parts_list {parts : Array (Nat × Operand)} {L : List (Nat × Value)} (hp : (parts.toList.map fun x => (x.1, a.eval x.2)) = L) : (parts.map fun (i, x) => (i, a.eval x)) = L.toArray := by
  apply Array.ext'
  rw [Array.toList_map, ← hp]
theorem quiet_build {C : World → Prop} {Q : Act → Prop} (hg : o.guard = none) (t : TypeId) (parts : Array (Nat × Operand)) (ho : o.op = .build t parts) (L : List (Nat × Value)) (hp : (parts.toList.map fun x => (x.1, a.eval x.2)) = L) (v : Value) (hr : ∀ w, (Instr.build t L.toArray).run P w = .ok v w)
    (h : wpQuiet P ops C Q rest (a.put o.dst v)) : wpQuiet P ops C Q (o :: rest) a := by
  refine wpQuiet_step (fun K hK => ?_)
  simp only [Region.wanted, hg, if_true]
  refine ⟨v, fun w _ => ?_, hK _ h⟩
  unfold Oper.quietAt execOp
  simp only [ho, Sem.run_bind, parts_list hp, hr, Result.andThen_ok]
  exact ⟨rfl, rfl⟩
theorem wpList_buildE {Q : Exit → Act → World → Prop} {w : World} (hg : o.guard = none) (t : TypeId) (parts : Array (Nat × Operand)) (ho : o.op = .build t parts) (L : List (Nat × Value)) (hp : (parts.toList.map fun x => (x.1, a.eval x.2)) = L) (v : Value) (hr : (Instr.build t L.toArray).run P w = .ok v w)
    (h : wpList P ops Q rest (a.put o.dst v) w) : wpList P ops Q (o :: rest) a w := by
  refine wpList_plain hg fun K hK => ?_
  unfold Oper.wp execOp
  simp only [ho, Sem.run_bind, parts_list hp, hr, Result.andThen_ok]
  exact hK _ _ h
theorem wpList_sliceE {Q : Exit → Act → World → Prop} {w w' : World} (hg : o.guard = none) (t : TypeId) (n : Nat) (parts : Array (Nat × Operand)) (ho : o.op = .buildSlice t n parts) (L : List (Nat × Value)) (hp : (parts.toList.map fun x => (x.1, a.eval x.2)) = L) (v : Value) (hr : (Instr.buildSlice t n L.toArray).run P w = .ok v w')
    (h : wpList P ops Q rest (a.put o.dst v) w') : wpList P ops Q (o :: rest) a w := by
  refine wpList_plain hg fun K hK => ?_
  unfold Oper.wp execOp
  simp only [ho, Sem.run_bind, parts_list hp, hr, Result.andThen_ok]
  exact hK _ _ h
theorem at_build {Q : Exit → Act → World → Prop} {w : World} {dst : Option Tmp} {t ty : TypeId} {pos : String} {after : Array Edge} {parts : Array (Nat × Operand)} (L : List (Nat × Value)) (hp : (parts.toList.map fun x => (x.1, a.eval x.2)) = L) (v : Value) (hr : (Instr.build t L.toArray).run P w = .ok v w)
    (h : wpList P ops Q rest (a.put dst v) w) : wpList P ops Q ({ dst := dst, op := .build t parts, type := ty, pos := pos, after := after, guard := none } :: rest) a w := wpList_buildE rfl t parts rfl L hp v hr h
theorem at_slice {Q : Exit → Act → World → Prop} {w w' : World} {dst : Option Tmp} {t ty : TypeId} {n : Nat} {pos : String} {after : Array Edge} {parts : Array (Nat × Operand)} (L : List (Nat × Value)) (hp : (parts.toList.map fun x => (x.1, a.eval x.2)) = L) (v : Value) (hr : (Instr.buildSlice t n L.toArray).run P w = .ok v w')
    (h : wpList P ops Q rest (a.put dst v) w') : wpList P ops Q ({ dst := dst, op := .buildSlice t n parts, type := ty, pos := pos, after := after, guard := none } :: rest) a w := wpList_sliceE rfl t n parts rfl L hp v hr h
end

/-! ### Lists by literals -/
theorem base_size (n : Nat) (z : Array Value) : ((Array.range n).map (z[· % z.size]!)).size = n := by simp
theorem info_all (t : TypeId) (z : Value) (s by_ : Nat) (h : (Try.prog.info? t).map (fun i => (i.zero, i.size, i.bytes)) = some (some z, s, by_)) : ∃ it, Try.prog.info? t = some it ∧ it.zero = some z ∧ it.size = s ∧ it.bytes = by_ := by
  cases hh : Try.prog.info? t with
  | none => rw [hh] at h; simp at h
  | some it => rw [hh] at h; simp at h; exact ⟨it, rfl, h.1, h.2.1, h.2.2⟩
theorem slice_one (r : Rt) (w : World) : (Instr.buildSlice 22 1 #[(0, .agg (rc r))]).run Try.prog w = .ok (.slice (some ⟨w.heap.size, 0, none⟩) 1 1) (w.alloc (.cells (rc r) 37)) := by
  obtain ⟨it, hi, hz, hs, _⟩ := info_all 37 _ _ _ info34
  refine run_buildSlice w 22 37 1 _ _ it _ (by kernel_rfl) hi hz (by rw [hs]; omega) (by rw [hs]; omega) ?_
  rw [hs]
  have hr := rc_size r
  rw [fill_one _ _ 0 0 _ _ (by simp [Value.cells, hr]) (by rw [base_size]; simp [Value.cells, hr])]
  rw [Instr.fill]
  simp only [Value.cells, hr, List.take_zero, List.nil_append, Nat.zero_add]
  rw [List.drop_of_length_le (by rw [Array.length_toList, base_size]; omega)]
  simp
theorem slice_two (r s : Rt) (w : World) : (Instr.buildSlice 22 2 #[(0, .agg (rc r)), (1, .agg (rc s))]).run Try.prog w = .ok (.slice (some ⟨w.heap.size, 0, none⟩) 2 2) (w.alloc (.cells (flat rl [r, s]).toArray 37)) := by
  obtain ⟨it, hi, hz, hs, _⟩ := info_all 37 _ _ _ info34
  refine run_buildSlice w 22 37 2 _ _ it _ (by kernel_rfl) hi hz (by rw [hs]; omega) (by rw [hs]; omega) ?_
  rw [hs]
  have hr := rc_size r
  have hs2 := rc_size s
  rw [fill_one _ _ 0 0 _ _ (by simp [Value.cells, hr]) (by rw [base_size]; simp [Value.cells, hr])]
  simp only [Value.cells, hr, List.take_zero, List.nil_append, Nat.zero_add]
  generalize hB : ((Array.range (2 * 20)).map fun x => (rc zeroR)[x % (rc zeroR).size]!).toList.drop 20 = B
  have hBl : B.length = 20 := by rw [← hB]; simp
  rw [fill_one _ _ 1 20 _ _ (by simp [Value.cells, hs2]) (by simp [Value.cells, hr, hs2, hBl])]
  rw [Instr.fill]
  simp only [Value.cells, hs2]
  rw [List.take_left' (by simp [hr]), List.drop_of_length_le (by simp [hr, hBl])]
  simp [flat, rc]

/-! ### Changes -/
structure Ic where
  kind : Int
  route : Rt
def il (i : Ic) : List Value := .int .i64 i.kind :: rl i.route
def ic (i : Ic) : Array Value := (il i).toArray
theorem il_len (i : Ic) : (il i).length = 21 := by rw [il, List.length_cons, rl_len]
theorem ic_size (i : Ic) : (ic i).size = 21 := by simp [ic, il_len]
theorem il_one (i : Ic) : ∀ v ∈ il i, v.oneCell' = true := by
  intro v hv
  rw [il] at hv
  rcases List.mem_cons.1 hv with rfl | h
  · rfl
  · exact rl_one _ v h
def zeroI : Ic := ⟨0, zeroR⟩
instance : Inhabited Ic := ⟨zeroI⟩
theorem info43 : (Try.prog.info? 52).map (fun i => (i.zero, i.size, i.bytes)) = some (some (.agg (ic zeroI)), 21, 56) := by kernel_rfl
theorem under43 : (Try.prog.underlying 52).bind (fun d => match d with | .struct fs => fs.toList.mapM (fun f => (Try.prog.info? f.type).map fun i => (f.offset, i.size)) | _ => none) = some [(0, 1), (1, 20)] := by kernel_rfl
theorem built43 (parts : List (Nat × Value)) : Try.prog.built 52 parts = Instr.fill (([(0, 1), (1, 20)] : List (Nat × Nat)).toArray[·]?) (ic zeroI) parts := by
  obtain ⟨it, hi, hz, _⟩ := info_all 52 _ _ _ info43
  have hu := under43
  cases h : Try.prog.underlying 52 with
  | none => rw [h] at hu; simp at hu
  | some d =>
    rw [h] at hu
    cases d <;> simp at hu
    rename_i fs
    exact built_struct (z := .agg (ic zeroI)) hi h hz (by simpa using hu)
theorem build_inc (k : Int) (r : Rt) (w : World) : (Instr.build 52 #[(0, .int .i64 k), (1, .agg (rc r))]).run Try.prog w = .ok (.agg (ic ⟨k, r⟩)) w := by
  refine run_build w 52 _ _ ?_
  rw [built43]
  have hr := rc_size r
  rw [fill_one _ _ 0 0 _ _ (by simp [Value.cells]) (by simp [Value.cells, ic_size])]
  simp only [Value.cells, List.take_zero, List.nil_append, Nat.zero_add]
  have hz : (ic zeroI).toList.drop 1 = rl zeroR := rfl
  rw [show (#[Value.int IntKind.i64 k] : Array Value).size = 1 from rfl, hz]
  rw [fill_one _ _ 1 1 _ _ (by simp [Value.cells, hr]) (by simp [Value.cells, hr, rl_len])]
  rw [Instr.fill]
  simp only [Value.cells, hr]
  simp [ic, il, rc, rl_len]
theorem slice_inc (i : Ic) (w : World) : (Instr.buildSlice 50 1 #[(0, .agg (ic i))]).run Try.prog w = .ok (.slice (some ⟨w.heap.size, 0, none⟩) 1 1) (w.alloc (.cells (ic i) 52)) := by
  obtain ⟨it, hi, hz, hs, _⟩ := info_all 52 _ _ _ info43
  refine run_buildSlice w 50 52 1 _ _ it _ (by kernel_rfl) hi hz (by rw [hs]; omega) (by rw [hs]; omega) ?_
  rw [hs]
  have hr := ic_size i
  rw [fill_one _ _ 0 0 _ _ (by simp [Value.cells, hr]) (by rw [base_size]; simp [Value.cells, hr])]
  rw [Instr.fill]
  simp only [Value.cells, hr, List.take_zero, List.nil_append, Nat.zero_add]
  rw [List.drop_of_length_le (by rw [Array.length_toList, base_size]; omega)]
  simp
end Go.Proofs.Ytfikdeobejhblaa

/- Proved: a table in memory; what table's rows and place, and the library's search by halves, answer. Condition: the table's routes are in order. -/
namespace Go.Proofs.Ytfikdeobejhblaa
open Go.RowKit

/-- A table lies in block b. -/
structure Tb (w : World) (b : Nat) (l : List Rt) : Prop where
  lies : ∃ v, w.heap[b]? = some (.cells #[v] 84 (0, 0)) ∧ Row rl 37 w v l
  sorted : Sorted l
  few : l.length ≤ 300
theorem Tb.keep {w w' : World} {b : Nat} {l : List Rt} (h : Tb w b l) (k : Keep w w') : Tb w' b l := by
  obtain ⟨⟨v, h1, h2⟩, h3, h4⟩ := h
  exact ⟨⟨v, k.obj h1, h2.keep k⟩, h3, h4⟩
theorem Tb.only {w w' : World} {b c : Nat} {l m : List Rt} (h : Tb w b l) (hc : Tb w c m) (k : Only c w w') (hb : b ≠ c) : Tb w' b l := by
  obtain ⟨⟨v, h1, h2⟩, h3, h4⟩ := h
  obtain ⟨⟨u, k1, _⟩, _, _⟩ := hc
  exact ⟨⟨v, k.obj h1 hb, h2.only k k1 (by decide)⟩, h3, h4⟩
theorem Tb.row {w w' : World} {c : Nat} {α : Type} {enc : α → List Value} {t : TypeId} {v : Value} {l : List α} {m : List Rt} (h : Row enc t w v l) (hc : Tb w c m) (k : Only c w w') (ht : t ≠ 84) : Row enc t w' v l := by
  obtain ⟨⟨u, k1, _⟩, _, _⟩ := hc
  exact h.only k k1 ht

/-- The pointer to a table, or none; its routes. -/
def Tp (w : World) (p : Value) (l : List Rt) : Prop := (p = .pointer none ∧ l = []) ∨ ∃ b, p = .pointer (some ⟨b, 0, none⟩) ∧ Tb w b l
theorem Tp.keep {w w' : World} {p : Value} {l : List Rt} (h : Tp w p l) (k : Keep w w') : Tp w' p l := by
  rcases h with h | ⟨b, h1, h2⟩
  · exact .inl h
  · exact .inr ⟨b, h1, h2.keep k⟩
theorem Tp.sorted {w : World} {p : Value} {l : List Rt} (h : Tp w p l) : Sorted l := by
  rcases h with ⟨_, rfl⟩ | ⟨b, h1, h2⟩
  · exact Sorted.nil
  · exact h2.sorted
theorem Tp.few {w : World} {p : Value} {l : List Rt} (h : Tp w p l) : l.length ≤ 300 := by
  rcases h with ⟨_, rfl⟩ | ⟨b, h1, h2⟩
  · simp
  · exact h2.few

set_option maxRecDepth 100000 in
theorem rows_of {p : Value} {l : List Rt} {w : World} (h : Tp w p l) : ∃ v, Row rl 37 w v l ∧ ∀ w', Keep w w' → Calls Try.prog 45 #[p] w' fun e w'' => e = .returned v ∧ Keep w' w'' := by
  rcases h with ⟨rfl, rfl⟩ | ⟨b, rfl, ⟨v, h1, h2⟩, _, _⟩
  · refine ⟨_, Row.nil _ _, fun w' _ => ?_⟩
    go_enter Try.func45, Try.ntmps45
    go_wp2
    go_ret
    exact ⟨rfl, Keep.refl _⟩
  · refine ⟨v, h2, fun w' k => ?_⟩
    have hc : w'.cell? ⟨b, 0, none⟩ = some v := cell_obj (k.obj h1) rfl
    clear h1 h2 k
    go_enter Try.func45, Try.ntmps45
    go_wp2
    go_ret
    exact ⟨rfl, Keep.refl _⟩
end Go.Proofs.Ytfikdeobejhblaa

/- Proved: what the library's search by halves answers over routes in order. Condition: the routes are in order. -/
namespace Go.Proofs.Ytfikdeobejhblaa
open Go.RowKit

theorem Cells.rt {w : World} {g o cap n : Nat} {l : List Rt} (h : Cells rl w (.slice (some ⟨g, o, none⟩) l.length cap) l) (hn : n = 20) (j : Nat) (x : Rt) (hx : l[j]? = some x) : (loadCellsFrom ⟨g, o + j * n, none⟩ 0 n #[]).run Try.prog w = .ok (rc x) w := by
  have := h.load (P := Try.prog) (n := n) rl_len j x hx 0 20 (rl x) (rl_whole x) (by omega) hn
  rw [Nat.add_zero, ← hn] at this
  exact this
def BsRel (W : World) (K N : Nat) (i j : Value) (wr : World) : Prop := ∃ a b : Nat, i = .int .i64 a ∧ j = .int .i64 b ∧ a ≤ K ∧ K ≤ b ∧ b ≤ N ∧ Keep W wr

set_option maxRecDepth 100000 in
set_option maxHeartbeats 1000000 in
theorem search (v : Value) (l : List Rt) (r : Rt) (hs : Sorted l) (w : World) (h : Cells rl w v l) (hl : l.length ≤ 1000000) :
    Calls Try.prog 85 #[v, .agg (rc r), .func (.func 44) #[] #[]] w fun e w' => e = .returned (.tuple #[.int .i64 (rank l r.to : Nat), .bool (hasP l r.to)]) ∧ Keep w w' := by
  obtain ⟨a, cap, rfl, hc1, hc2⟩ := h.form
  have hA := RAt.new w r
  have hS : Keep w (w.alloc (.cells (rc r) 37)) := (Keep.refl w).alloc _
  have h1 := h.keep hS
  obtain ⟨n, hn⟩ : ∃ n, n = 20 := ⟨20, rfl⟩
  have hsz : ∀ w, (Go.sizeOf 37).run Try.prog w = .ok n w := fun w => by rw [hn]; exact Try.sizeOf37 w
  have hn0 : ¬ n = 0 := by omega
  have H1 := Lib.hid h1
  have HA := Lib.hid hA
  have HS := Lib.hid hS
  have HN := Lib.hid hn
  have hrk := rank_le l r.to
  have HR1 := Lib.hid (lt_rank hs r.ok)
  have HR2 := Lib.hid (get_rank hs r.ok)
  have HR3 := Lib.hid (no_rank hs r.ok)
  clear h1 hA hS hn h
  generalize rc r = R at *
  generalize hasP l r.to = q at *
  generalize rank l r.to = K at *
  go_enter Try.func85, Try.ntmps85
  go_wp2
  go_loopw [9, 10] (fun i j wr => BsRel (w.alloc (.cells R 37)) K l.length i j wr) (fun i j _ => (intOf j).toNat - (intOf i).toNat)
  case atStart => exact ⟨0, l.length, rfl, rfl, Nat.zero_le _, hrk, Nat.le_refl _, Keep.refl _⟩
  case round =>
    obtain ⟨i, j, rfl, rfl, hi, hj, hjl, hk⟩ := hrel
    by_cases hij : i < j
    · obtain ⟨m, hm⟩ : ∃ m : Nat, ((i : Int) + j) / 2 = m := ⟨(i + j) / 2, by omega⟩
      have hmi : i ≤ m ∧ m < j := by omega
      obtain ⟨g, o, cap', he, _, _, _⟩ := H1.out.ptr m (by omega)
      simp at he
      obtain ⟨rfl, rfl⟩ := he
      obtain ⟨x, hx⟩ : ∃ x, l[m]? = some x := ⟨_, List.getElem?_eq_getElem (by omega)⟩
      have d1 : ∀ u : KW wr, (loadCellsFrom ⟨g, o + m * n, none⟩ 0 n #[]).run Try.prog u.1 = .ok (rc x) u.1 := fun u => (H1.out.keep (hk.trans u.2)).rt HN.out m x hx
      have d2 : ∀ u : KW wr, (loadCellsFrom ⟨w.heap.size, 0, none⟩ 0 n #[]).run Try.prog u.1 = .ok (rc r) u.1 := fun u => (HA.out.keep (hk.trans u.2)).whole HN.out
      have hml : m < l.length := by omega
      have HO := Lib.hid (order x r).keep
      have HR := Lib.hid (HR1.out m x hx)
      have HK := Lib.hid hk
      clear hk H1 HA HR1 HR2 HR3
      generalize cmpP x.to r.to = z at *
      generalize rc x = X at *
      go_wp2_with fail
      refine wp_region_keep (Keep.refl _) (by kernel_rfl) (by kernel_rfl) ?_
      repeat (first | go_big_quiet_step (exact HO.out.at _) | quiet_step (exact HO.out.at _))
      refine wpQuiet_nil ?_
      rintro w6 ⟨⟨w7, b7⟩, rfl⟩
      have HK7 := Lib.hid (HK.out.trans b7)
      clear HK b7 d1 d2
      by_cases hz : z < 0
      · have hm2 := HR.out.1 hz
        go_wp2
        go_roundw
        case rel => exact ⟨m + 1, j, by go_num, rfl, by omega, hj, hjl, HK7.out⟩
        case measure => simp [intOf]; omega
      · have hm2 : K ≤ m := Nat.le_of_not_lt fun h => hz (HR.out.2 h)
        go_wp2
        go_roundw
        case rel => exact ⟨i, m, rfl, rfl, hi, by omega, by omega, HK7.out⟩
        case measure => simp [intOf]; omega
    · have hi2 : i = K := by omega
      have hj2 : j = K := by omega
      subst hi2
      subst hj2
      clear hi hj hij
      have HK := Lib.hid hk
      by_cases hm : j < l.length
      · obtain ⟨g, o, cap', he, _, _, _⟩ := H1.out.ptr j hm
        simp at he
        obtain ⟨rfl, rfl⟩ := he
        obtain ⟨x, hx⟩ : ∃ x, l[j]? = some x := ⟨_, List.getElem?_eq_getElem hm⟩
        have d1 : ∀ u : KW wr, (loadCellsFrom ⟨g, o + j * n, none⟩ 0 n #[]).run Try.prog u.1 = .ok (rc x) u.1 := fun u => (H1.out.keep (hk.trans u.2)).rt HN.out _ x hx
        have d2 : ∀ u : KW wr, (loadCellsFrom ⟨w.heap.size, 0, none⟩ 0 n #[]).run Try.prog u.1 = .ok (rc r) u.1 := fun u => (HA.out.keep (hk.trans u.2)).whole HN.out
        have HO := Lib.hid (order x r).keep
        have HR := Lib.hid (HR2.out x hx)
        clear hk H1 HA hx HR1 HR2 HR3
        generalize cmpP x.to r.to = z at *
        generalize rc x = X at *
        go_wp2_with fail
        refine wp_region_keep (Keep.refl _) (by kernel_rfl) (by kernel_rfl) ?_
        repeat (first | go_big_quiet_step (exact HO.out.at _) | quiet_step (exact HO.out.at _))
        refine wpQuiet_nil ?_
        rintro w6 ⟨⟨w7, b7⟩, rfl⟩
        go_wp2
        go_ret2
        refine ⟨?_, HS.out.trans (HK.out.trans b7)⟩
        rw [HR.out]
        rfl
      · have HR := Lib.hid (HR3.out (Nat.le_of_not_lt hm))
        clear hk HR1 HR2 HR3
        go_wp2_with fail
        refine wp_region_keep (Keep.refl _) (by kernel_rfl) (by kernel_rfl) ?_
        repeat (first | go_big_quiet_step (fail) | quiet_step (fail))
        refine wpQuiet_nil ?_
        rintro w6 ⟨⟨w7, b7⟩, rfl⟩
        go_wp2
        go_ret2
        refine ⟨?_, HS.out.trans (HK.out.trans b7)⟩
        rw [HR.out]
        rfl

set_option maxRecDepth 100000 in
/-- place, of a table or of none. -/
theorem place (t : Value) (l : List Rt) (p : Px) (hp : L16 p) (w : World) (h : Tp w t l) : Calls Try.prog 59 #[t, .agg (pc p)] w fun e w' => e = .returned (.tuple #[.int .i64 (rank l p : Nat), .bool (hasP l p)]) ∧ Keep w w' := by
  have hA := (one_at w p hp).1
  have hS : Keep w (w.alloc (.cells (pc p) 34)) := (Keep.refl w).alloc _
  obtain ⟨n, hn⟩ : ∃ n, n = 18 := ⟨18, rfl⟩
  have hsz : ∀ w, (Go.sizeOf 34).run Try.prog w = .ok n w := fun w => by rw [hn]; exact Try.sizeOf34 w
  have hn0 : ¬ n = 0 := by omega
  have d1 : ∀ u : KW (w.alloc (.cells (pc p) 34)), (loadCellsFrom ⟨w.heap.size, 0, none⟩ 0 n #[]).run Try.prog u.1 = .ok (pc p) u.1 := fun u => load_block n (by rw [pc_size p hp, hn]) (u.block hA.block)
  have ht := h.keep hS
  obtain ⟨v, hv, hrow⟩ := rows_of ht
  have HR : Hid (∀ u : KW (w.alloc (.cells (pc p) 34)), Calls Try.prog 45 #[t] u.1 fun e w'' => e = .returned v ∧ ∃ m : KW (w.alloc (.cells (pc p) 34)), w'' = m.1) := fun u => keep_at hrow u
  have HB : Hid (∀ u : KW (w.alloc (.cells (pc p) 34)), Calls Try.prog 85 #[v, .agg (rc ⟨p, 0, 0, hp⟩), .func (.func 44) #[] #[]] u.1 fun e w'' => e = .returned (.tuple #[.int .i64 (rank l p : Nat), .bool (hasP l p)]) ∧ ∃ m : KW (w.alloc (.cells (pc p) 34)), w'' = m.1) := fun u => keep_at (fun w1 k => search v l ⟨p, 0, 0, hp⟩ h.sorted w1 (hv.cells.keep k) (by have := h.few; omega)) u
  have HS := Lib.hid hS
  have HN := Lib.hid hn
  have HBU := Lib.hid (build_to p hp)
  clear hA hS hn ht hv hrow h
  generalize rc ⟨p, 0, 0, hp⟩ = R at *
  generalize rank l p = K at *
  generalize hasP l p = q at *
  go_enter Try.func59, Try.ntmps59
  go_wp2_with fail
  refine wp_region_keep (Keep.refl _) (by kernel_rfl) (by kernel_rfl) ?_
  repeat (first | go_big_quiet_step (exact HR.out _) | quiet_step (exact HR.out _))
  refine quiet_build rfl 37 _ rfl _ rfl _ HBU.out ?_
  go_simp
  repeat (first | go_big_quiet_step (exact HB.out _) | quiet_step (exact HB.out _))
  refine wpQuiet_nil ?_
  rintro ⟨w7, b7⟩
  go_wp2
  go_ret2
  exact ⟨rfl, HS.out.trans b7⟩
end Go.Proofs.Ytfikdeobejhblaa

/- Proved: lists that grow (append); what the library's Clone, Grow and Concat answer over routes. Condition: lists are short enough for memory. -/
namespace Go.Proofs.Ytfikdeobejhblaa
open Go.RowKit

/-- A list that one has made oneself, behind all that was there. -/
def Own {α : Type} (t k : Nat) (enc : α → List Value) (B : Nat) (w : World) (v : Value) (l : List α) : Prop := w.ownsRow B t k v l.length (flat enc l)
/-- A type of things, and lists of them. -/
structure El {α : Type} (ts t k bs : Nat) (enc : α → List Value) : Prop where
  under : Try.prog.underlying ts = some (.slice t)
  info : ∃ it z, Try.prog.info? t = some it ∧ it.zero = some z ∧ it.size = k ∧ it.bytes = bs ∧ z.cells.size = k
  len : ∀ x, (enc x).length = k
  one : ∀ x, ∀ v ∈ enc x, v.oneCell' = true
  pos : 0 < k
theorem elR : El 22 37 20 48 rl := ⟨by kernel_rfl, by
  obtain ⟨it, h1, h2, h3, h4⟩ := info_all 37 _ _ _ info34
  exact ⟨it, _, h1, h2, h3, h4, rc_size zeroR⟩, rl_len, rl_one, by omega⟩
theorem elI : El 50 52 21 56 il := ⟨by kernel_rfl, by
  obtain ⟨it, h1, h2, h3, h4⟩ := info_all 52 _ _ _ info43
  exact ⟨it, _, h1, h2, h3, h4, ic_size zeroI⟩, il_len, il_one, by omega⟩

section
variable {α : Type} {ts t k bs : Nat} {enc : α → List Value}
theorem Own.nil (B : Nat) (w : World) : Own t k enc B w (.slice none 0 0) [] := World.ownsRow_nil w B t k
theorem Own.made (B : Nat) (w : World) (hb : B ≤ w.heap.size) : Own t k enc B (w.alloc (.cells #[] t)) (.slice (some ⟨w.heap.size, 0, none⟩) 0 0) [] := World.ownsRow_made w #[] 0 hb (Nat.zero_le _) (by simp)
theorem Own.row (E : El ts t k bs enc) {B : Nat} {w : World} {v : Value} {l : List α} (h : Own t k enc B w v l) : Row enc t w v l := (Row.owns E.len h E.pos).1
theorem Own.keep {B : Nat} {w w' : World} {v : Value} {l : List α} (h : Own t k enc B w v l) (hk : Keep w w') : Own t k enc B w' v l := by
  refine World.ownsRow.kept (row := none) h ⟨hk.1, hk.2, hk.3, hk.4, fun i hi _ => hk.5 i hi⟩ ?_
  cases hv : v.ownBlock with
  | none => exact .inl rfl
  | some g => exact .inr (by simp)
theorem Own.grown {B : Nat} {W w w' : World} {v : Value} {l : List α} (h : Own t k enc B w v l) (hW : Keep W w) (hB : W.heap.size ≤ B) (hg : w.grownBy w' v.ownBlock) : Keep W w' :=
  hW.grown hg fun i hi => Nat.le_trans hB (World.ownsRow.lt h i hi).1
theorem wp_app (E : El ts t k bs enc) {ops : Array Oper} {rest : List Oper} {o : Oper} {a : Act} {Q : Exit → Act → World → Prop} {w : World} (hgd : o.guard = none) (s x : Operand)
    (ho : o.op = .call { callee := .builtin .append, args := #[s, x], argTypes := #[ts, ts] }) (B : Nat) (v u : Value) (l m : List α) (hs : a.eval s = v) (hx : a.eval x = u) (hown : Own t k enc B w v l) (hsrc : Cells enc w u m)
    (hsm : (l.length + m.length) * bs ≤ 140737488355328) (hb : l.length + m.length ≤ 1000000) (hbase : B ≤ w.heap.size)
    (h : ∀ v' w', Own t k enc B w' v' (l ++ m) → w.grownBy w' v.ownBlock → wpList Try.prog ops Q rest (a.put o.dst v') w') : wpList Try.prog ops Q (o :: rest) a w := by
  obtain ⟨it, z, hi, hz, hsz, hby, hzs⟩ := E.info
  rcases hsrc with ⟨rfl, rfl⟩ | ⟨g, off, cap, rfl, h1, h2, h3, h4⟩
  · refine wpList_append_own_none hgd s x ts ho B t it k E.under hi v _ _ hs hown hx (h v w (by simpa using hown) ⟨rfl, rfl, rfl, Nat.le_refl _, fun _ _ _ => rfl⟩)
  · refine wpList_append_own w hgd s x ts ho B t it z k bs E.under hi hz hsz hby hzs E.pos v _ _ hs hown ⟨g, off, none⟩ m.length cap (flat enc m) hx (flat_len enc E.len m) ?_ (flat_one' E.one m) (by unfold maxLen; omega) hsm hbase ?_
    · intro j u hj
      rw [show (⟨g, off, none⟩ : Addr).add j = ⟨g, off + j, none⟩ from by unfold Addr.add; split <;> simp_all]
      exact h4 j u hj
    · intro v' w' k1 k2 _
      refine h v' w' ?_ k2
      unfold Own
      rw [flat_append, List.length_append]
      exact k1
end

set_option maxRecDepth 100000 in
theorem clone (v : Value) (l : List Rt) (w : World) (h : Cells rl w v l) (hl : l.length ≤ 1000000) : Calls Try.prog 42 #[v] w fun e w' => ∃ v', e = .returned v' ∧ Own 37 20 rl w.heap.size w' v' l ∧ Keep w w' := by
  have h0 := h
  rcases h with ⟨rfl, rfl⟩ | ⟨g, o, cap, rfl, h1, h2, h3, h4⟩
  · have he : ∀ w, (binOp .eql 22 (.slice none 0 0) (.slice none 0 0)).run Try.prog w = .ok (.bool true) w := fun w => Lib.run_eql_slice_nil w 22 37 none 0 0 0 0 (by kernel_rfl)
    clear h0
    go_enter Try.func42, Try.ntmps42
    go_wp2
    go_ret
    exact ⟨_, rfl, Own.nil _ _, Keep.refl _⟩
  · have he : ∀ w, (binOp .eql 22 (.slice (some ⟨g, o, none⟩) l.length cap) (.slice none 0 0)).run Try.prog w = .ok (.bool false) w := fun w => Lib.run_eql_slice_nil w 22 37 (some ⟨g, o, none⟩) l.length cap 0 0 (by kernel_rfl)
    have HK := Lib.hid ((Keep.refl w).alloc (.cells #[] 37))
    have HC := Lib.hid (h0.keep HK.out)
    have HO := Lib.hid (Own.made (t := 37) (k := 20) (enc := rl) w.heap.size w (Nat.le_refl _))
    have hsz : w.heap.size ≤ (w.alloc (.cells #[] 37)).heap.size := HK.out.size
    clear h0 h4
    go_enter Try.func42, Try.ntmps42
    go_wp2_with (at_builtin; refine wp_app elR rfl _ _ rfl w.heap.size _ _ [] l rfl rfl HO.out HC.out ?q1 ?q2 ?q3 ?_)
    case q1 => simp; omega
    case q2 => simp; omega
    case q3 => exact hsz
    intro v' w' k1 k2
    go_wp2
    go_ret
    exact ⟨_, rfl, k1, HO.out.grown HK.out (Nat.le_refl _) k2⟩
end Go.Proofs.Ytfikdeobejhblaa

/- Proved: what the library's Grow and Concat answer over routes. Condition: lists are short enough for memory. -/
namespace Go.Proofs.Ytfikdeobejhblaa
open Go.RowKit

set_option maxRecDepth 100000 in
theorem grow (n : Nat) (hn : n ≤ 1000000) (w : World) : Calls Try.prog 77 #[.slice none 0 0, .int .i64 n] w fun e w' => ∃ v', e = .returned v' ∧ Own 37 20 rl w.heap.size w' v' [] ∧ Keep w w' := by
  by_cases h0 : n = 0
  · subst h0
    go_enter Try.func77, Try.ntmps77
    go_wp2
    go_ret
    exact ⟨_, rfl, Own.nil _ _, Keep.refl _⟩
  · obtain ⟨G, C, hG, hG2, hC, hr⟩ : ∃ G C, n ≤ G ∧ G ≤ maxLen ∧ C.size = G * 20 ∧ ∀ ty, (Builtin.append_ #[22, 3] ty #[.slice none 0 0, .int .i64 n]).run Try.prog w = .ok (.slice (some ⟨w.heap.size, 0, none⟩) n G) (w.drew.alloc (.cells C 37)) := by
      obtain ⟨it, z, hi, hz, hsz, hby, hzs⟩ := elR.info
      refine ⟨grownCap w n 0 37, #[] ++ Builtin.zeroCells z.cells n ++ Builtin.zeroCells z.cells (grownCap w n 0 37 - n), ?_, ?_, ?_, fun ty => ?_⟩
      rotate_left 3
      · have h := Lib.run_append_grow_zeros (P := Try.prog) w 22 3 ty 37 it z .i64 .i64 elR.under (by kernel_rfl) hi hz none 0 0 [] (by exact run_firstCells_none w.drew it.size 0 0 0) n (by omega) (by omega) (by omega) (by omega) (by rw [hby]; omega) (by rw [Nat.zero_add, hby]; exact growslice_fits (by omega) (by omega))
        rw [Nat.zero_add] at h
        exact h
      · exact grownCap_ge w n 0 37
      · exact grownCap_le_maxLen w n 0 37 (by unfold maxLen; omega)
      · have := grownCap_ge w n 0 37
        simp only [Array.size_append, size_zeroCells, hzs, List.size_toArray, List.length_nil, Nat.zero_add]
        rw [← Nat.add_mul]
        congr 1
        omega
    have hpos : ¬ ((n : Int) < 0) := by omega
    have hpos2 : (n : Int) > 0 := by omega
    have hm : G ≤ 9223372036854775807 := by unfold maxLen at hG2; omega
    have HG2 := Lib.hid hG2
    have HC := Lib.hid hC
    clear hG2 hC
    go_enter Try.func77, Try.ntmps77
    go_wp2_with (at_builtin; refine Lib.wpList_append_run _ rfl _ _ _ _ rfl _ _ rfl rfl _ _ (hr _) ?_)
    go_ret
    refine ⟨_, rfl, ?_, ?_⟩
    · have := World.ownsRow_made (base := w.heap.size) (e := 37) (size := 20) w.drew C G (Nat.le_refl _) HG2.out HC.out
      exact this
    · exact ((Keep.refl w).drew).alloc _

set_option maxRecDepth 100000 in
/-- Three lists in a row of lists. -/
theorem concat (v1 v2 v3 : Value) (l1 l2 l3 : List Rt) (g : Nat) (w : World) (hg : w.heap[g]? = some (.cells #[v1, v2, v3] 22 (0, 0))) (h1 : Cells rl w v1 l1) (h2 : Cells rl w v2 l2) (h3 : Cells rl w v3 l3) (hl : l1.length + l2.length + l3.length ≤ 1000000) :
    Calls Try.prog 46 #[.slice (some ⟨g, 0, none⟩) 3 3] w fun e w' => ∃ v', e = .returned v' ∧ Own 37 20 rl w.heap.size w' v' (l1 ++ l2 ++ l3) ∧ Keep w w' := by
  obtain ⟨a1, c1, rfl, _, _⟩ := h1.form
  obtain ⟨a2, c2, rfl, _, _⟩ := h2.form
  obtain ⟨a3, c3, rfl, _, _⟩ := h3.form
  have e1 : w.cell? ⟨g, 0, none⟩ = some (.slice a1 l1.length c1) := cell_obj hg rfl
  have e2 : w.cell? ⟨g, 1, none⟩ = some (.slice a2 l2.length c2) := cell_obj hg rfl
  have e3 : w.cell? ⟨g, 2, none⟩ = some (.slice a3 l3.length c3) := cell_obj hg rfl
  have HG := Lib.hid hg
  have H1 := Lib.hid h1
  have H2 := Lib.hid h2
  have H3 := Lib.hid h3
  have HGr := Lib.hid (grow (l1.length + l2.length + l3.length) (by omega) w)
  clear hg h1 h2 h3
  have n1 : ¬ ((l1.length : Int) < 0) := by omega
  have n2 : ¬ ((l1.length : Int) + l2.length < 0) := by omega
  have n3 : ¬ ((l1.length : Int) + l2.length + l3.length < 0) := by omega
  go_enter Try.func46, Try.ntmps46
  go_wp2
  refine wp_loop_rounds 4 ?_
  repeat any_goals (rw [rounds_succ]; go_wp2_with fail)
  refine (HGr.out).mono ?_
  rintro e w1 ⟨v1, rfl, o1, k1⟩
  have hg1 := k1.obj HG.out
  have e1 : w1.cell? ⟨g, 0, none⟩ = some (.slice a1 l1.length c1) := cell_obj hg1 rfl
  have HC1 := Lib.hid (H1.out.keep k1)
  have HO1 := Lib.hid o1
  have HK1 := Lib.hid k1
  have hsz1 : w.heap.size ≤ w1.heap.size := k1.size
  clear e2 e3 o1 k1 hg1 n1 n2 n3
  go_wp2
  refine wp_loop_rounds 4 ?_
  rw [rounds_succ]
  go_wp2_with (at_builtin; refine wp_app elR rfl _ _ rfl w.heap.size _ _ [] l1 rfl rfl HO1.out HC1.out ?q1 ?q2 ?q3 ?_)
  case q1 => (try simp); omega
  case q2 => (try simp); omega
  case q3 => exact hsz1
  intro v2 w2 o2 g2
  have k2 : Keep w w2 := HO1.out.grown HK1.out (Nat.le_refl _) g2
  have hg2 := k2.obj HG.out
  have e2 : w2.cell? ⟨g, 1, none⟩ = some (.slice a2 l2.length c2) := cell_obj hg2 rfl
  have HC2 := Lib.hid (H2.out.keep k2)
  have HO2 := Lib.hid o2
  have HK2 := Lib.hid k2
  have hsz2 : w.heap.size ≤ w2.heap.size := k2.size
  clear e1 hsz1 HC1 HO1 HK1 o2 g2 k2 hg2
  go_wp2
  rw [rounds_succ]
  go_wp2_with (at_builtin; refine wp_app elR rfl _ _ rfl w.heap.size _ _ l1 l2 rfl rfl HO2.out HC2.out ?r1 ?r2 ?r3 ?_)
  case r1 => (try simp); omega
  case r2 => (try simp); omega
  case r3 => exact hsz2
  intro v3 w3 o3 g3
  have k3 : Keep w w3 := HO2.out.grown HK2.out (Nat.le_refl _) g3
  have hg3 := k3.obj HG.out
  have e3 : w3.cell? ⟨g, 2, none⟩ = some (.slice a3 l3.length c3) := cell_obj hg3 rfl
  have HC3 := Lib.hid (H3.out.keep k3)
  have HO3 := Lib.hid o3
  have HK3 := Lib.hid k3
  have hsz3 : w.heap.size ≤ w3.heap.size := k3.size
  clear e2 hsz2 HC2 HO2 HK2 o3 g3 k3 hg3
  go_wp2
  rw [rounds_succ]
  go_wp2_with (at_builtin; refine wp_app elR rfl _ _ rfl w.heap.size _ _ (l1 ++ l2) l3 rfl rfl HO3.out HC3.out ?s1 ?s2 ?s3 ?_)
  case s1 => (try simp); omega
  case s2 => (try simp); omega
  case s3 => exact hsz3
  intro v4 w4 o4 g4
  have HO4 := Lib.hid o4
  have HK4 := Lib.hid (show Keep w w4 from HO3.out.grown HK3.out (Nat.le_refl _) g4)
  clear e3 hsz3 HC3 HO3 HK3 o4 g4
  go_wp2
  rw [rounds_succ]
  go_wp2
  go_ret
  exact ⟨_, rfl, by simpa using HO4.out, HK4.out⟩
end Go.Proofs.Ytfikdeobejhblaa

/- Proved: parts of lists of routes; what becomes of a table when others come in the place of some of its routes. Condition: the places are there. -/
namespace Go.Proofs.Ytfikdeobejhblaa
open Go.RowKit

section
variable {w : World} {v : Value} {l : List Rt}
theorem cut_mid (h : Row rl 37 w v l) (i j : Nat) (hij : i ≤ j) (hj : j ≤ l.length) : ∃ v1, (∀ w', (Instr.sliceAt 22 v (some (.int .i64 i)) (some (.int .i64 j)) none).run Try.prog w' = .ok v1 w') ∧ Row rl 37 w v1 ((l.drop i).take (j - i)) := by
  have he : Try.prog.elem 22 = 37 := by kernel_rfl
  rcases h.cells with ⟨rfl, rfl⟩ | ⟨g, o, cap, rfl, h1, h2, h3, h4⟩
  · simp at hj
    subst hj
    obtain rfl : i = 0 := by omega
    exact ⟨.slice none 0 0, fun w' => by go_simp, by simpa using h⟩
  · have hm : cap ≤ 9223372036854775807 := by unfold maxLen at h2; omega
    have hjc : ¬ cap < j := by omega
    refine ⟨.slice (some ⟨g, if cap = i then o else o + i * 20, none⟩) (j - i) (cap - i), fun w' => ?_, ?_⟩
    · by_cases e : cap = i
      · subst e
        obtain rfl : j = cap := by omega
        rw [if_pos rfl]
        go_simp
      · rw [if_neg e]
        go_simp
    · exact h.part rl_len i j _ hij hj _ (fun hlt => by rw [if_neg (by omega)]) (by omega) (by omega)
theorem cut_to (h : Row rl 37 w v l) (j : Nat) (hj : j ≤ l.length) : ∃ v1, (∀ w', (Instr.sliceAt 22 v none (some (.int .i64 j)) none).run Try.prog w' = .ok v1 w') ∧ Row rl 37 w v1 (l.take j) := by
  have he : Try.prog.elem 22 = 37 := by kernel_rfl
  rcases h.cells with ⟨rfl, rfl⟩ | ⟨g, o, cap, rfl, h1, h2, h3, h4⟩
  · simp at hj
    subst hj
    exact ⟨.slice none 0 0, fun w' => by go_simp, by simpa using h⟩
  · have hm : cap ≤ 9223372036854775807 := by unfold maxLen at h2; omega
    have hjc : ¬ cap < j := by omega
    refine ⟨.slice (some ⟨g, o, none⟩) j cap, fun w' => ?_, ?_⟩
    · go_simp
    · have := h.part rl_len 0 j cap (Nat.zero_le _) hj o (fun _ => by omega) (by omega) (by omega)
      simpa using this
theorem cut_from (h : Row rl 37 w v l) (i : Nat) (hi : i ≤ l.length) : ∃ v1, (∀ w', (Instr.sliceAt 22 v (some (.int .i64 i)) none none).run Try.prog w' = .ok v1 w') ∧ Row rl 37 w v1 (l.drop i) := by
  have he : Try.prog.elem 22 = 37 := by kernel_rfl
  rcases h.cells with ⟨rfl, rfl⟩ | ⟨g, o, cap, rfl, h1, h2, h3, h4⟩
  · simp at hi
    subst hi
    exact ⟨.slice none 0 0, fun w' => by go_simp, by simpa using h⟩
  · have hm : cap ≤ 9223372036854775807 := by unfold maxLen at h2; omega
    refine ⟨.slice (some ⟨g, if cap = i then o else o + i * 20, none⟩) (l.length - i) (cap - i), fun w' => ?_, ?_⟩
    · by_cases e : cap = i
      · subst e
        have e2 : l.length = cap := by omega
        rw [if_pos rfl]
        go_simp
      · rw [if_neg e]
        go_simp
    · have := h.part rl_len i l.length (cap - i) hi (Nat.le_refl _) (if cap = i then o else o + i * 20) (fun hlt => by rw [if_neg (by omega)]) (by omega) (by omega)
      rwa [List.take_of_length_le (by rw [List.length_drop]; exact Nat.le_refl _)] at this
end

set_option maxRecDepth 100000 in
set_option maxHeartbeats 1000000 in
theorem replace (b : Nat) (l m : List Rt) (i j : Nat) (u : Value) (w : World) (h : Tb w b l) (hij : i ≤ j) (hj : j ≤ l.length) (hu : Row rl 37 w u m) (hm : m.length ≤ 1) (hs : Sorted (l.take i ++ m ++ l.drop j)) (hl : (l.take i ++ m ++ l.drop j).length ≤ 300) :
    Calls Try.prog 109 #[.pointer (some ⟨b, 0, none⟩), .int .i64 i, .int .i64 j, u] w fun e w' => e = .returned (.tuple #[]) ∧ Tb w' b (l.take i ++ m ++ l.drop j) ∧ Only b w w' := by
  obtain ⟨⟨v, h1, h2⟩, h3, h4⟩ := h
  obtain ⟨v1, s1, r1⟩ := cut_to h2 i (by omega)
  obtain ⟨v3, s3, r3⟩ := cut_from h2 j hj
  have cn : w.cell? ⟨b, 0, none⟩ = some v := cell_obj h1 rfl
  have H1 := Lib.hid h1
  have R1 := Lib.hid r1
  have R3 := Lib.hid r3
  have RU := Lib.hid hu
  have HS := Lib.hid hs
  have HL := Lib.hid hl
  obtain ⟨a1, c1, e1, _, _⟩ := r1.cells.form
  obtain ⟨a2, c2, e2, _, _⟩ := hu.cells.form
  obtain ⟨a3, c3, e3, _, _⟩ := r3.cells.form
  have hlen : (l.take i).length + m.length + (l.drop j).length ≤ 1000000 := by rw [List.length_take, List.length_drop]; omega
  have HLEN1 := Lib.hid hlen
  clear h2 r1 r3 hu hs hl hlen
  obtain ⟨n1, hn1⟩ : ∃ n, (l.take i).length = n := ⟨_, rfl⟩
  obtain ⟨n2, hn2⟩ : ∃ n, m.length = n := ⟨_, rfl⟩
  obtain ⟨n3, hn3⟩ : ∃ n, (l.drop j).length = n := ⟨_, rfl⟩
  rw [hn1] at e1
  rw [hn2] at e2
  rw [hn3] at e3
  clear hn1 hn2 hn3
  subst e1 e2 e3
  have bw : b < w.heap.size := block_lt h1
  have HK1 : Hid (Keep w (w.alloc (.cells #[.slice a1 n1 c1, .slice a2 n2 c2, .slice a3 n3 c3] 22)).drew) := ((Keep.refl w).alloc _).drew
  have cn1 : (w.alloc (.cells #[.slice a1 n1 c1, .slice a2 n2 c2, .slice a3 n3 c3] 22)).drew.cell? ⟨b, 0, none⟩ = some v := cell_obj (HK1.out.obj h1) rfl
  have HG : Hid ((w.alloc (.cells #[.slice a1 n1 c1, .slice a2 n2 c2, .slice a3 n3 c3] 22)).drew.heap[w.heap.size]? = some (.cells #[.slice a1 n1 c1, .slice a2 n2 c2, .slice a3 n3 c3] 22 (0, 0))) := heap_alloc_last w _
  clear h1
  go_enter Try.func109, Try.ntmps109
  go_wp2_with fail
  have HCON := Lib.hid (concat _ _ _ (l.take i) m (l.drop j) _ _ HG.out (R1.out.keep HK1.out).cells (RU.out.keep HK1.out).cells (R3.out.keep HK1.out).cells HLEN1.out)
  go_region_with (go_at_call 46; refine HCON.out.mono ?_; rintro e w4 ⟨v', rfl, o4, k4⟩; obtain ⟨a4, c4, e4, _, _⟩ := (Own.row elR o4).cells.form; obtain ⟨n4, hn4⟩ : ∃ n, (l.take i ++ m ++ l.drop j).length = n := ⟨_, rfl⟩; rw [hn4] at e4; clear hn4; subst e4; have hb4 := (HK1.out.trans k4).obj H1.out; have cn2 : w4.cell? ⟨b, 0, none⟩ = some v := cell_obj hb4 rfl; have fz2 : w4.frozen? ⟨b, 0, none⟩ = false := by simp [World.frozen?, hb4])
  all_goals
    go_end0
    refine ⟨rfl, ⟨⟨_, block_set hb4 0 _, ?_⟩, HS.out, HL.out⟩, (Only.keep (HK1.out.trans k4)).trans (Only.setCell _ _ _ _)⟩
    exact (Own.row elR o4).only (Only.setCell b 0 w4 _) hb4 (by decide)
end Go.Proofs.Ytfikdeobejhblaa

/- Proved: what table's Put and Drop answer, and what becomes of the table. Condition: the table lies in memory, or is none. -/
namespace Go.Proofs.Ytfikdeobejhblaa
open Go.RowKit

theorem Row.one (w : World) (r : Rt) : Row rl 37 (w.alloc (.cells (rc r) 37)) (.slice (some ⟨w.heap.size, 0, none⟩) 1 1) [r] := by
  have hb : (w.alloc (.cells (rc r) 37)).heap[w.heap.size]? = some (.cells (rc r) 37 (0, 0)) := heap_alloc_last w _
  refine ⟨.inr ⟨w.heap.size, 0, 1, rfl, Nat.le_refl _, by simp [maxLen], block_lt hb, fun j u hj => ?_⟩, fun g hg => ?_⟩
  · rw [flat_one] at hj
    exact cell_obj hb (by rw [Nat.zero_add]; simpa [rc] using hj)
  · simp [Value.ownBlock] at hg
    subst hg
    exact ⟨_, _, hb⟩

theorem put_nil (r : Rt) : GivesK Try.prog 86 #[.pointer none, .agg (rc r)] (.int .i64 10) := by
  intro w
  go_enter Try.func86, Try.ntmps86
  go_wp2
  go_ret
  exact ⟨rfl, (Keep.refl w).alloc _⟩

def TbPost (b : Nat) (w : World) (x : List Rt × Int) (e : Ending) (w' : World) : Prop := e = .returned (.int .i64 x.2) ∧ Tb w' b x.1 ∧ Only b w w'

set_option maxRecDepth 100000 in
set_option maxHeartbeats 1000000 in
theorem put (b : Nat) (l : List Rt) (r : Rt) (w : World) (h : Tb w b l) : Calls Try.prog 86 #[.pointer (some ⟨b, 0, none⟩), .agg (rc r)] w (TbPost b w (putS l r)) := by
  have hA := RAt.new w r
  have hS : Keep w (w.alloc (.cells (rc r) 37)) := (Keep.refl w).alloc _
  obtain ⟨n, hn⟩ : ∃ n, n = 18 := ⟨18, rfl⟩
  have hsz : ∀ w, (Go.sizeOf 34).run Try.prog w = .ok n w := fun w => by rw [hn]; exact Try.sizeOf34 w
  have hn0 : ¬ n = 0 := by omega
  obtain ⟨n2, hn2⟩ : ∃ n, n = 20 := ⟨20, rfl⟩
  have hsz2 : ∀ w, (Go.sizeOf 37).run Try.prog w = .ok n2 w := fun w => by rw [hn2]; exact Try.sizeOf37 w
  have HR := Lib.hid (rightT r).keep
  have HSL := Lib.hid (slice_one r)
  have HROW := Lib.hid (fun w => Row.one w r)
  have h1 := hA.whole hn2
  have HA := Lib.hid hA
  have HS := Lib.hid hS
  have HT := Lib.hid (h.keep hS)
  have HN := Lib.hid hn
  have HN2 := Lib.hid hn2
  have hsrt := Lib.hid h.sorted
  have hfew := Lib.hid h.few
  clear hA hS hn hn2 h
  obtain ⟨R, hR⟩ : ∃ R, rc r = R := ⟨_, rfl⟩
  have HRC := Lib.hid hR
  rw [hR] at h1 HR HSL HROW HS HA HT
  simp only [hR] at HSL HROW ⊢
  clear hR
  unfold putS
  by_cases hr : rightR r
  · rw [if_pos hr]
    rw [decide_eq_true hr] at HR
    have hrk := rank_le l r.to
    by_cases hh : hasP l r.to
    · rw [if_pos hh]
      have hlt := has_lt hsrt.out r.ok hh
      have HL := Lib.hid (show l.take (rank l r.to) ++ [r] ++ l.drop (rank l r.to + 1) = putL l r by unfold putL; rw [if_pos hh, List.append_assoc]; rfl)
      have HP := Lib.hid (fun w h => place (.pointer (some ⟨b, 0, none⟩)) l r.to r.ok w h)
      simp only [hh] at HP
      have hpl := putL_len hsrt.out r
      rw [if_pos hh] at hpl
      have HPL := Lib.hid hpl
      have HPS := Lib.hid (putL_sorted hsrt.out r)
      clear hpl hh hr
      obtain ⟨k, hk⟩ : ∃ k, rank l r.to = k := ⟨_, rfl⟩
      rw [hk] at hlt HL HP hrk
      have hkl : k ≤ 1000000 := by have := hfew.out; omega
      clear hk
      go_enter Try.func86, Try.ntmps86
      go_wp2_with fail
      refine (HR.out _).mono ?_
      rintro e w1 ⟨rfl, b1⟩
      have h2 := (HA.out.keep b1).to HN.out
      go_wp2_with fail
      refine (HP.out _ (.inr ⟨b, rfl, HT.out.keep b1⟩)).mono ?_
      rintro e w2 ⟨rfl, b2⟩
      have h3 := (HA.out.keep (b1.trans b2)).whole HN2.out
      rw [HRC.out] at h3
      have HT2 := Lib.hid (HT.out.keep (b1.trans b2))
      have HK2 := Lib.hid (HS.out.trans (b1.trans b2))
      clear h1 h2 b1 b2 HT
      go_wp2_with (refine at_slice [(0, .agg R)] rfl _ (HSL.out _) ?_)
      have HK3 := Lib.hid (show Keep w2 (w2.alloc (.cells R 37)) from (Keep.refl w2).alloc _)
      have hrep := replace b l [r] k (k + 1) _ _ (HT2.out.keep HK3.out) (by omega) (by omega) (HROW.out w2) (by simp) (by rw [HL.out]; exact HPS.out) (by rw [HL.out, HPL.out]; exact hfew.out)
      rw [show ((k + 1 : Nat) : Int) = (k : Int) + 1 by omega, HL.out] at hrep
      refine hrep.mono ?_
      rintro e w3 ⟨rfl, t3, o3⟩
      clear hrep h3
      have HE := Lib.hid (show TbPost b w (putL l r, 0) (.returned (.int .i64 0)) w3 from ⟨rfl, t3, (Only.keep (HK2.out.trans HK3.out)).trans o3⟩)
      clear t3 o3
      go_wp2
      go_ret
      exact HE.out
    · rw [if_neg hh]
      have hhf : hasP l r.to = false := by simpa using hh
      have HP := Lib.hid (fun w h => place (.pointer (some ⟨b, 0, none⟩)) l r.to r.ok w h)
      simp only [hhf] at HP
      have HL := Lib.hid (show l.take (rank l r.to) ++ [r] ++ l.drop (rank l r.to) = putL l r by unfold putL; rw [if_neg hh, List.append_assoc]; rfl)
      have hpl := putL_len hsrt.out r
      rw [if_neg hh] at hpl
      have HPL := Lib.hid hpl
      have HPS := Lib.hid (putL_sorted hsrt.out r)
      clear hpl hh hr hhf
      obtain ⟨k, hk⟩ : ∃ k, rank l r.to = k := ⟨_, rfl⟩
      rw [hk] at HL HP hrk
      clear hk
      by_cases hb : 300 ≤ l.length
      · rw [if_pos hb]
        go_enter Try.func86, Try.ntmps86
        go_wp2_with fail
        refine (HR.out _).mono ?_
        rintro e w1 ⟨rfl, b1⟩
        have h2 := (HA.out.keep b1).to HN.out
        go_wp2_with fail
        refine (HP.out _ (.inr ⟨b, rfl, HT.out.keep b1⟩)).mono ?_
        rintro e w2 ⟨rfl, b2⟩
        have HT2 := Lib.hid (HT.out.keep (b1.trans b2))
        have HK2 := Lib.hid (HS.out.trans (b1.trans b2))
        obtain ⟨v, hv, hrow⟩ := HT2.out.lies
        obtain ⟨a, cap, e, _, _⟩ := hrow.cells.form
        subst e
        have hc : w2.cell? ⟨b, 0, none⟩ = some (.slice a l.length cap) := cell_obj hv rfl
        have hb2 : (l.length : Int) ≥ 300 := by omega
        clear h1 h2 b1 b2 HT hv hrow
        go_wp2
        go_ret
        exact ⟨rfl, HT2.out, Only.keep HK2.out⟩
      · rw [if_neg hb]
        go_enter Try.func86, Try.ntmps86
        go_wp2_with fail
        refine (HR.out _).mono ?_
        rintro e w1 ⟨rfl, b1⟩
        have h2 := (HA.out.keep b1).to HN.out
        go_wp2_with fail
        refine (HP.out _ (.inr ⟨b, rfl, HT.out.keep b1⟩)).mono ?_
        rintro e w2 ⟨rfl, b2⟩
        have h3 := (HA.out.keep (b1.trans b2)).whole HN2.out
        rw [HRC.out] at h3
        have HT2 := Lib.hid (HT.out.keep (b1.trans b2))
        have HK2 := Lib.hid (HS.out.trans (b1.trans b2))
        obtain ⟨v, hv, hrow⟩ := HT2.out.lies
        obtain ⟨a, cap, e, _, _⟩ := hrow.cells.form
        subst e
        have hc : w2.cell? ⟨b, 0, none⟩ = some (.slice a l.length cap) := cell_obj hv rfl
        have hb2 : ¬ ((l.length : Int) ≥ 300) := by omega
        clear h1 h2 b1 b2 HT hv hrow
        go_wp2_with (refine at_slice [(0, .agg R)] rfl _ (HSL.out _) ?_)
        have HK3 := Lib.hid (show Keep w2 (w2.alloc (.cells R 37)) from (Keep.refl w2).alloc _)
        have hrep := replace b l [r] k k _ _ (HT2.out.keep HK3.out) (by omega) (by omega) (HROW.out w2) (by simp) (by rw [HL.out]; exact HPS.out) (by rw [HL.out, HPL.out]; omega)
        rw [HL.out] at hrep
        refine hrep.mono ?_
        rintro e w3 ⟨rfl, t3, o3⟩
        clear hrep h3
        have HE := Lib.hid (show TbPost b w (putL l r, 0) (.returned (.int .i64 0)) w3 from ⟨rfl, t3, (Only.keep (HK2.out.trans HK3.out)).trans o3⟩)
        clear t3 o3
        go_wp2
        go_ret
        exact HE.out
  · rw [if_neg hr]
    rw [decide_eq_false hr] at HR
    clear hr
    go_enter Try.func86, Try.ntmps86
    go_wp2_with fail
    refine (HR.out _).mono ?_
    rintro e w1 ⟨rfl, b1⟩
    go_wp2
    go_ret
    exact ⟨rfl, HT.out.keep b1, Only.keep (HS.out.trans b1)⟩

theorem drop_nil (p : Px) : GivesK Try.prog 87 #[.pointer none, .agg (pc p)] (.int .i64 10) := by
  intro w
  go_enter Try.func87, Try.ntmps87
  go_wp2
  go_ret
  exact ⟨rfl, (Keep.refl w).alloc _⟩

set_option maxRecDepth 100000 in
set_option maxHeartbeats 1000000 in
theorem drop (b : Nat) (l : List Rt) (p : Px) (hp : L16 p) (w : World) (h : Tb w b l) : Calls Try.prog 87 #[.pointer (some ⟨b, 0, none⟩), .agg (pc p)] w (TbPost b w (dropS l p)) := by
  have hA := (one_at w p hp).1
  have hS : Keep w (w.alloc (.cells (pc p) 34)) := (Keep.refl w).alloc _
  obtain ⟨n, hn⟩ : ∃ n, n = 18 := ⟨18, rfl⟩
  have hsz : ∀ w, (Go.sizeOf 34).run Try.prog w = .ok n w := fun w => by rw [hn]; exact Try.sizeOf34 w
  have hn0 : ¬ n = 0 := by omega
  have h1 := hA.whole hn
  have HP := Lib.hid (place (.pointer (some ⟨b, 0, none⟩)) l p hp _ (.inr ⟨b, rfl, h.keep hS⟩))
  have HS := Lib.hid hS
  have HT := Lib.hid (h.keep hS)
  have hsrt := Lib.hid h.sorted
  have hfew := Lib.hid h.few
  have HCS := Lib.hid (cutP_sorted h.sorted p)
  unfold dropS
  by_cases hh : hasP l p
  · rw [if_pos hh]
    rw [hh] at HP
    have hlt := has_lt h.sorted hp hh
    have HCL := Lib.hid (cutP_len h.sorted hp hh)
    have HL := Lib.hid (show l.take (rank l p) ++ [] ++ l.drop (rank l p + 1) = cutP l p by unfold cutP; rw [List.append_nil])
    clear hA hS hn h hh
    obtain ⟨k, hk⟩ : ∃ k, rank l p = k := ⟨_, rfl⟩
    rw [hk] at hlt HL HP
    have hkl : k ≤ 1000000 := by have := hfew.out; omega
    clear hk
    go_enter Try.func87, Try.ntmps87
    go_wp2_with fail
    refine HP.out.mono ?_
    rintro e w2 ⟨rfl, b2⟩
    have HT2 := Lib.hid (HT.out.keep b2)
    have HK2 := Lib.hid (HS.out.trans b2)
    clear h1 b2 HT HP
    go_wp2_with fail
    have hrep := replace b l [] k (k + 1) _ _ HT2.out (by omega) (by omega) (Row.nil 37 w2) (by simp) (by rw [HL.out]; exact HCS.out) (by rw [HL.out]; have := HCL.out; have := hfew.out; omega)
    rw [show ((k + 1 : Nat) : Int) = (k : Int) + 1 by omega, HL.out] at hrep
    refine hrep.mono ?_
    rintro e w3 ⟨rfl, t3, o3⟩
    clear hrep
    have HE := Lib.hid (show TbPost b w (cutP l p, 0) (.returned (.int .i64 0)) w3 from ⟨rfl, t3, (Only.keep HK2.out).trans o3⟩)
    clear t3 o3
    go_wp2
    go_ret
    exact HE.out
  · rw [if_neg hh]
    rw [show hasP l p = false by simpa using hh] at HP
    clear hA hS hn h hh
    generalize rank l p = k at *
    go_enter Try.func87, Try.ntmps87
    go_wp2_with fail
    refine HP.out.mono ?_
    rintro e w2 ⟨rfl, b2⟩
    go_wp2
    go_ret
    exact ⟨rfl, HT.out.keep b2, Only.keep (HS.out.trans b2)⟩
end Go.Proofs.Ytfikdeobejhblaa

/- Proved: what table's Len, Copy, Get, All and Between answer. Condition: the table lies in memory, or is none. -/
namespace Go.Proofs.Ytfikdeobejhblaa
open Go.RowKit

theorem info34b : (Try.prog.info? 37).map (fun i => (i.zero, i.size)) = some (some (.agg (rc zeroR)), 20) := by kernel_rfl
theorem rc_one (r : Rt) : ∀ v ∈ (rc r).toList, v.oneCell' = true := by
  intro v hv
  exact rl_one r v (by simpa [rc] using hv)
theorem RAt.store {w : World} {b : Nat} {z : Rt} (h : RAt w b z) (r : Rt) : (storeCells ⟨b, 0, none⟩ (rc r).toList).run Try.prog w = .ok () (w.setRow b (rc r)) := by
  have hsc := run_storeCells_from (P := Try.prog) b 37 (rc r).toList 0 (rc z) w h (by rw [rc_size z]; simp [rc_size r]) (rc_one r)
  rw [List.take_zero, List.nil_append, Array.toArray_toList] at hsc
  exact hsc
theorem RAt.put {w : World} {b : Nat} {z : Rt} (h : RAt w b z) (r : Rt) : RAt (w.setRow b (rc r)) b r := block_row h _

set_option maxRecDepth 100000 in
theorem len_at (t : Value) (l : List Rt) (w : World) (h : Tp w t l) : Calls Try.prog 37 #[t] w fun e w' => e = .returned (.int .i64 l.length) ∧ Keep w w' := by
  obtain ⟨v, hv, hc⟩ := rows_of h
  obtain ⟨a, cap, rfl, _, _⟩ := hv.cells.form
  have H := Lib.hid hc
  clear h hv hc
  go_enter Try.func37, Try.ntmps37
  go_wp2_with fail
  refine (H.out w (Keep.refl _)).mono ?_
  rintro e w1 ⟨rfl, b1⟩
  go_wp2
  go_ret
  exact ⟨rfl, b1⟩

set_option maxRecDepth 100000 in
set_option maxHeartbeats 1000000 in
theorem get (t : Value) (l : List Rt) (p : Px) (hp : L16 p) (w : World) (h : Tp w t l) : Calls Try.prog 25 #[t, .agg (pc p)] w fun e w' => e = .returned (.tuple #[.agg (rc (getS l p)), .bool (hasP l p)]) ∧ Keep w w' := by
  obtain ⟨hz, hi⟩ := zero_of_info info34b
  have hA := (one_at w p hp).1
  obtain ⟨n, hn⟩ : ∃ n, n = 18 := ⟨18, rfl⟩
  have hsz : ∀ w, (Go.sizeOf 34).run Try.prog w = .ok n w := fun w => by rw [hn]; exact Try.sizeOf34 w
  have hn0 : ¬ n = 0 := by omega
  obtain ⟨n2, hn2⟩ : ∃ n, n = 20 := ⟨20, rfl⟩
  have hsz2 : ∀ w, (Go.sizeOf 37).run Try.prog w = .ok n2 w := fun w => by rw [hn2]; exact Try.sizeOf37 w
  have hS : Keep w ((w.alloc (.cells (pc p) 34)).alloc (.cells (rc zeroR) 37)) := ((Keep.refl w).alloc _).alloc _
  have h1 := (hA.mono ((Same.refl _).alloc (.cells (rc zeroR) 37))).whole hn
  have hB : RAt ((w.alloc (.cells (pc p) 34)).alloc (.cells (rc zeroR) 37)) (w.heap.size + 1) zeroR := by
    have := RAt.new (w.alloc (.cells (pc p) 34)) zeroR
    simpa using this
  have HP := Lib.hid (place t l p hp _ (h.keep hS))
  have HB := Lib.hid hB
  have HS := Lib.hid hS
  have HT := Lib.hid (h.keep hS)
  have HN := Lib.hid hn
  have HN2 := Lib.hid hn2
  have hzs : (rc zeroR).size = n2 := by rw [hn2]; exact rc_size _
  clear hn hn2 hA hS hB hi
  unfold getS
  by_cases hh : hasP l p = true
  · rw [if_pos hh]
    rw [hh] at HP ⊢
    obtain ⟨x, hx, hxp⟩ := (has_rank h.sorted hp).1 hh
    have hlt := (List.getElem?_eq_some_iff.1 hx).1
    rw [show l.getD (rank l p) zeroR = x by rw [List.getD_eq_getElem?_getD, hx]; rfl]
    have HX := Lib.hid hx
    clear hxp hx
    rcases h with ⟨rfl, rfl⟩ | ⟨b, rfl, hb⟩
    · simp at hlt
    clear hb hh
    obtain ⟨k, hk⟩ : ∃ k, rank l p = k := ⟨_, rfl⟩
    rw [hk] at HX HP hlt
    clear hk
    obtain ⟨X, hX⟩ : ∃ X, rc x = X := ⟨_, rfl⟩
    have HXE := Lib.hid hX
    rw [hX]
    clear hX
    go_enter Try.func25, Try.ntmps25
    go_wp2_with fail
    refine HP.out.mono ?_
    rintro e w2 ⟨rfl, b2⟩
    rcases HT.out with ⟨h0, _⟩ | ⟨b', hbe, ⟨⟨v, hv, hrow⟩, hs, hf⟩⟩
    · cases h0
    cases hbe
    obtain ⟨g, o, cap, e, _, _, _⟩ := hrow.cells.ptr k hlt
    subst e
    have hc : w2.cell? ⟨b, 0, none⟩ = some (.slice (some ⟨g, o, none⟩) l.length cap) := cell_obj (b2.obj hv) rfl
    have hld := (hrow.cells.keep b2).rt HN2.out k x HX.out
    have HB2 := Lib.hid (HB.out.keep b2)
    have hst := HB2.out.store x
    have hl3 := (HB2.out.put x).whole HN2.out
    have HK := Lib.hid ((HS.out.trans b2).setRow (w.heap.size + 1) (rc x) (by omega))
    have hkl : k < 1000000 := by omega
    have hzx : (rc x).size = n2 := by rw [HN2.out]; exact rc_size _
    clear h1 hv hrow b2 HB HT HP
    rw [HXE.out] at hld hst hl3 HK hzx
    go_wp2
    refine bodyPost_ret (v := .tuple #[.agg X, .bool true]) ?_ rfl ⟨rfl, HK.out⟩
    simp [results, Try.results25, go_sem, hsz2, hl3]
  · rw [if_neg hh]
    rw [show hasP l p = false by simpa using hh] at HP ⊢
    have HBN := Lib.hid build_no
    clear hh h
    generalize rank l p = k at *
    go_enter Try.func25, Try.ntmps25
    go_wp2_with fail
    refine HP.out.mono ?_
    rintro e w2 ⟨rfl, b2⟩
    have HB2 := Lib.hid (HB.out.keep b2)
    have hst := HB2.out.store zeroR
    have hl3 := (HB2.out.put zeroR).whole HN2.out
    have HK := Lib.hid ((HS.out.trans b2).setRow (w.heap.size + 1) (rc zeroR) (by omega))
    clear h1 b2 HB HT HP hz
    go_wp2_with (refine at_build [] rfl _ (HBN.out _) ?_)
    refine bodyPost_ret (v := .tuple #[.agg (rc zeroR), .bool false]) ?_ rfl ⟨rfl, HK.out⟩
    simp [results, Try.results25, go_sem, hsz2, hl3]
end Go.Proofs.Ytfikdeobejhblaa

/- Proved: what table's All, Between, putWhere, withdraw and Do answer. Condition: the table lies in memory, or is none. -/
namespace Go.Proofs.Ytfikdeobejhblaa
open Go.RowKit

theorem at_buildG {P : Program} {ops : Array Oper} {rest : List Oper} {a : Act} {Q : Exit → Act → World → Prop} {w : World} {dst : Option Tmp} {t ty : TypeId} {pos : String} {after : Array Edge} {parts : Array (Nat × Operand)} {gd : Nat × Bool} (L : List (Nat × Value))
    (hw : Region.wanted { dst := dst, op := .build t parts, type := ty, pos := pos, after := after, guard := some gd } (yielded ops a.tmps) = true) (hp : (parts.toList.map fun x => (x.1, a.eval x.2)) = L) (v : Value) (hr : (Instr.build t L.toArray).run P w = .ok v w)
    (h : wpList P ops Q rest (a.put dst v) w) : wpList P ops Q ({ dst := dst, op := .build t parts, type := ty, pos := pos, after := after, guard := some gd } :: rest) a w := by
  refine wpList_step fun K hK => ?_
  rw [if_pos hw]
  unfold Oper.wp execOp
  simp only [Sem.run_bind, parts_list hp, hr, Result.andThen_ok]
  exact hK _ _ h

set_option maxRecDepth 100000 in
theorem all (t : Value) (l : List Rt) (w : World) (h : Tp w t l) : Calls Try.prog 12 #[t] w fun e w' => ∃ v', e = .returned v' ∧ Own 37 20 rl w.heap.size w' v' l ∧ Keep w w' := by
  obtain ⟨v, hv, hc⟩ := rows_of h
  have H := Lib.hid hc
  have HV := Lib.hid hv
  have hf := h.few
  clear h hv hc
  go_enter Try.func12, Try.ntmps12
  go_wp2_with fail
  refine (H.out w (Keep.refl _)).mono ?_
  rintro e w1 ⟨rfl, b1⟩
  go_wp2_with fail
  refine (clone v l w1 (HV.out.cells.keep b1) (by omega)).mono ?_
  rintro e w2 ⟨v', rfl, o2, b2⟩
  have HO : Hid (Own 37 20 rl w.heap.size w2 v' l) := by
    have hs := b1.size
    refine ⟨o2.1, ?_⟩
    rcases o2.2 with h | ⟨g, cap, cur, h1, h2, h3⟩
    · exact .inl h
    · exact .inr ⟨g, cap, cur, h1, Nat.le_trans hs h2, h3⟩
  have HK := Lib.hid (b1.trans b2)
  clear b1 b2 o2
  go_wp2
  go_ret
  exact ⟨v', rfl, HO.out, HK.out⟩

def betS (l : List Rt) (p q : Px) : List Rt := (l.drop (rank l p)).take (rank l q - rank l p)
set_option maxRecDepth 100000 in
set_option maxHeartbeats 1000000 in
/-- putWhere. -/
theorem putWhere (b : Nat) (l : List Rt) (must : Bool) (r : Rt) (x : Int) (w : World) (h : Tb w b l) :
    Calls Try.prog 60 #[.pointer (some ⟨b, 0, none⟩), .bool must, .agg (rc r), .int .i64 x] w (TbPost b w (if rightR r then (if hasP l r.to = must then putS l r else (l, x)) else (l, 1))) := by
  have hA := RAt.new w r
  have hS : Keep w (w.alloc (.cells (rc r) 37)) := (Keep.refl w).alloc _
  obtain ⟨n, hn⟩ : ∃ n, n = 18 := ⟨18, rfl⟩
  have hsz : ∀ w, (Go.sizeOf 34).run Try.prog w = .ok n w := fun w => by rw [hn]; exact Try.sizeOf34 w
  have hn0 : ¬ n = 0 := by omega
  obtain ⟨n2, hn2⟩ : ∃ n, n = 20 := ⟨20, rfl⟩
  have hsz2 : ∀ w, (Go.sizeOf 37).run Try.prog w = .ok n2 w := fun w => by rw [hn2]; exact Try.sizeOf37 w
  have HR := Lib.hid (rightT r).keep
  have h1 := hA.whole hn2
  have HA := Lib.hid hA
  have HS := Lib.hid hS
  have HT := Lib.hid (h.keep hS)
  have HN := Lib.hid hn
  have HN2 := Lib.hid hn2
  have HPut := Lib.hid (fun w h => put b l r w h)
  have HP := Lib.hid (fun w h => place (.pointer (some ⟨b, 0, none⟩)) l r.to r.ok w h)
  clear hA hS hn hn2 h
  obtain ⟨R, hR⟩ : ∃ R, rc r = R := ⟨_, rfl⟩
  have HRC := Lib.hid hR
  rw [hR] at h1 HR HS HA HT
  simp only [hR] at HPut ⊢
  clear hR
  by_cases hr : rightR r
  · rw [if_pos hr]
    rw [decide_eq_true hr] at HR
    clear hr
    by_cases hh : hasP l r.to = must
    · rw [if_pos hh]
      simp only [hh] at HP
      clear hh
      generalize rank l r.to = k at *
      have hmm : (!(must == must)) = false := by simp
      go_enter Try.func60, Try.ntmps60
      go_wp2_with fail
      refine (HR.out _).mono ?_
      rintro e w1 ⟨rfl, b1⟩
      have h2 := (HA.out.keep b1).to HN.out
      go_wp2_with fail
      refine (HP.out _ (.inr ⟨b, rfl, HT.out.keep b1⟩)).mono ?_
      rintro e w2 ⟨rfl, b2⟩
      have h3 := (HA.out.keep (b1.trans b2)).whole HN2.out
      rw [HRC.out] at h3
      have HT2 := Lib.hid (HT.out.keep (b1.trans b2))
      have HK2 := Lib.hid (HS.out.trans (b1.trans b2))
      clear h1 h2 b1 b2
      go_wp2_with fail
      refine (HPut.out _ HT2.out).mono ?_
      rintro e w3 ⟨rfl, t3, o3⟩
      have HE := Lib.hid (show TbPost b w (putS l r) (.returned (.int .i64 (putS l r).2)) w3 from ⟨rfl, t3, (Only.keep HK2.out).trans o3⟩)
      clear t3 o3 h3
      go_wp2
      go_ret
      exact HE.out
    · rw [if_neg hh]
      have hmm : (!(hasP l r.to == must)) = true := by simpa using hh
      clear hh
      generalize hasP l r.to = u at *
      generalize rank l r.to = k at *
      go_enter Try.func60, Try.ntmps60
      go_wp2_with fail
      refine (HR.out _).mono ?_
      rintro e w1 ⟨rfl, b1⟩
      have h2 := (HA.out.keep b1).to HN.out
      go_wp2_with fail
      refine (HP.out _ (.inr ⟨b, rfl, HT.out.keep b1⟩)).mono ?_
      rintro e w2 ⟨rfl, b2⟩
      have HT2 := Lib.hid (HT.out.keep (b1.trans b2))
      have HK2 := Lib.hid (HS.out.trans (b1.trans b2))
      clear h1 h2 b1 b2
      go_wp2
      go_ret
      exact ⟨rfl, HT2.out, Only.keep HK2.out⟩
  · rw [if_neg hr]
    rw [decide_eq_false hr] at HR
    clear hr
    go_enter Try.func60, Try.ntmps60
    go_wp2_with fail
    refine (HR.out _).mono ?_
    rintro e w1 ⟨rfl, b1⟩
    go_wp2
    go_ret
    exact ⟨rfl, HT.out.keep b1, Only.keep (HS.out.trans b1)⟩

set_option maxRecDepth 100000 in
set_option maxHeartbeats 1000000 in
theorem withdraw (b : Nat) (l : List Rt) (r : Rt) (w : World) (h : Tb w b l) :
    Calls Try.prog 61 #[.pointer (some ⟨b, 0, none⟩), .agg (rc r)] w (TbPost b w (if rightP r.to ∧ r = wd r then dropS l r.to else (l, 1))) := by
  have hA := RAt.new w r
  have hS : Keep w (w.alloc (.cells (rc r) 37)) := (Keep.refl w).alloc _
  obtain ⟨n, hn⟩ : ∃ n, n = 18 := ⟨18, rfl⟩
  have hsz : ∀ w, (Go.sizeOf 34).run Try.prog w = .ok n w := fun w => by rw [hn]; exact Try.sizeOf34 w
  have hn0 : ¬ n = 0 := by omega
  obtain ⟨n2, hn2⟩ : ∃ n, n = 20 := ⟨20, rfl⟩
  have hsz2 : ∀ w, (Go.sizeOf 37).run Try.prog w = .ok n2 w := fun w => by rw [hn2]; exact Try.sizeOf37 w
  have HR := Lib.hid (right r.to r.ok).keep
  have h1 := hA.to hn
  have HA := Lib.hid hA
  have HS := Lib.hid hS
  have HT := Lib.hid (h.keep hS)
  have HN := Lib.hid hn
  have HN2 := Lib.hid hn2
  have HD := Lib.hid (fun w h => drop b l r.to r.ok w h)
  have HBU := Lib.hid (build_to r.to r.ok)
  have heq : ∀ w, (Op.equalIn 10000 37 (.agg (rc r)) (.agg (rc (wd r)))).run Try.prog w = .ok (decide (r = wd r)) w := fun w => eq_rc 9995 r (wd r) w
  rw [show (⟨r.to, 0, 0, r.ok⟩ : Rt) = wd r from rfl] at HBU
  clear hA hS hn hn2 h
  obtain ⟨R, hR⟩ : ∃ R, rc r = R := ⟨_, rfl⟩
  have HRC := Lib.hid hR
  rw [hR] at h1 HS HA HT
  simp only [hR] at heq ⊢
  clear hR
  generalize rc (wd r) = D at *
  by_cases hr : rightP r.to
  · rw [decide_eq_true hr] at HR
    by_cases he : r = wd r
    · rw [if_pos ⟨hr, he⟩]
      simp only [decide_eq_true he] at heq
      clear hr he
      go_enter Try.func61, Try.ntmps61
      go_wp2_with fail
      refine (HR.out _).mono ?_
      rintro e w1 ⟨rfl, b1⟩
      have h2 := (HA.out.keep b1).to HN.out
      have h3 := (HA.out.keep b1).whole HN2.out
      rw [HRC.out] at h3
      have HT1 := Lib.hid (HT.out.keep b1)
      have HK1 := Lib.hid (HS.out.trans b1)
      clear h1 b1
      go_wp2_with (refine at_buildG [(0, .agg (pc r.to))] (by rfl) rfl _ (HBU.out _) ?_)
      refine (HD.out _ HT1.out).mono ?_
      rintro e w3 ⟨rfl, t3, o3⟩
      have HE := Lib.hid (show TbPost b w (dropS l r.to) (.returned (.int .i64 (dropS l r.to).2)) w3 from ⟨rfl, t3, (Only.keep HK1.out).trans o3⟩)
      clear t3 o3 h3 h2
      go_wp2
      go_ret
      exact HE.out
    · rw [if_neg (fun h => he h.2)]
      simp only [decide_eq_false he] at heq
      clear hr he
      go_enter Try.func61, Try.ntmps61
      go_wp2_with fail
      refine (HR.out _).mono ?_
      rintro e w1 ⟨rfl, b1⟩
      have h2 := (HA.out.keep b1).to HN.out
      have h3 := (HA.out.keep b1).whole HN2.out
      rw [HRC.out] at h3
      have HT1 := Lib.hid (HT.out.keep b1)
      have HK1 := Lib.hid (HS.out.trans b1)
      clear h1 b1
      go_wp2_with (refine at_buildG [(0, .agg (pc r.to))] (by rfl) rfl _ (HBU.out _) ?_)
      go_ret
      exact ⟨rfl, HT1.out, Only.keep HK1.out⟩
  · rw [decide_eq_false hr] at HR
    rw [if_neg (fun h => hr h.1)]
    clear hr heq
    go_enter Try.func61, Try.ntmps61
    go_wp2_with fail
    refine (HR.out _).mono ?_
    rintro e w1 ⟨rfl, b1⟩
    go_wp2
    go_ret
    exact ⟨rfl, HT.out.keep b1, Only.keep (HS.out.trans b1)⟩
end Go.Proofs.Ytfikdeobejhblaa

/- Proved: what table's Do, Same and aheadOf answer. Condition: the table lies in memory, or is none. -/
namespace Go.Proofs.Ytfikdeobejhblaa
open Go.RowKit

/-- A change lies in block b. -/
def IAt (w : World) (b : Nat) (i : Ic) : Prop := w.heap[b]? = some (.cells (ic i) 52 (0, 0))
theorem IAt.keep {w w' : World} {b : Nat} {i : Ic} (h : IAt w b i) (k : Keep w w') : IAt w' b i := k.obj h
theorem IAt.new (w : World) (i : Ic) : IAt (w.alloc (.cells (ic i) 52)) w.heap.size i := heap_alloc_last w _
theorem IAt.kind {w : World} {b : Nat} {i : Ic} (h : IAt w b i) : w.cell? ⟨b, 0, none⟩ = some (.int .i64 i.kind) := cell_obj h rfl
theorem IAt.whole {w : World} {b n : Nat} {i : Ic} (h : IAt w b i) (hn : n = 21) : (loadCellsFrom ⟨b, 0, none⟩ 0 n #[]).run Try.prog w = .ok (ic i) w := load_block n (by rw [ic_size, hn]) h
theorem IAt.part {w : World} {b n : Nat} {i : Ic} (h : IAt w b i) (L : List Value) (hn : n = L.length) (hL : ∀ (j : Nat) (v : Value), L[j]? = some v → (rl i.route)[j]? = some v) : (loadCellsFrom ⟨b, 1, none⟩ 0 n #[]).run Try.prog w = .ok L.toArray w := by
  refine load_part (P := Try.prog) (o := 1) (n := n) L hn.symm h (fun j v hv => ?_)
  have := hL j v hv
  rw [Nat.add_comm]
  simpa [ic, il] using this
theorem IAt.route {w : World} {b n : Nat} {i : Ic} (h : IAt w b i) (hn : n = 20) : (loadCellsFrom ⟨b, 1, none⟩ 0 n #[]).run Try.prog w = .ok (rc i.route) w := h.part (rl i.route) (by rw [rl_len, hn]) fun _ _ h => h
theorem IAt.to {w : World} {b n : Nat} {i : Ic} (h : IAt w b i) (hn : n = 18) : (loadCellsFrom ⟨b, 1, none⟩ 0 n #[]).run Try.prog w = .ok (pc i.route.to) w := by
  have := h.part (n := n) (pc i.route.to).toList (by rw [pcl _ i.route.ok, hn]) (fun j v hv => by
    rw [rl, List.getElem?_append_left (List.getElem?_eq_some_iff.1 hv).1, hv])
  simpa using this

theorem do_nil (i : Ic) : GivesK Try.prog 26 #[.pointer none, .agg (ic i)] (.int .i64 10) := by
  intro w
  go_enter Try.func26, Try.ntmps26
  go_wp2
  go_ret
  exact ⟨rfl, (Keep.refl w).alloc _⟩

set_option maxRecDepth 100000 in
set_option maxHeartbeats 1000000 in
theorem do_at (b : Nat) (l : List Rt) (i : Ic) (w : World) (h : Tb w b l) : Calls Try.prog 26 #[.pointer (some ⟨b, 0, none⟩), .agg (ic i)] w (TbPost b w (doS l i.kind i.route)) := by
  have hA := IAt.new w i
  have hS : Keep w (w.alloc (.cells (ic i) 52)) := (Keep.refl w).alloc _
  obtain ⟨n2, hn2⟩ : ∃ n, n = 20 := ⟨20, rfl⟩
  have hsz2 : ∀ w, (Go.sizeOf 37).run Try.prog w = .ok n2 w := fun w => by rw [hn2]; exact Try.sizeOf37 w
  have hn0 : ¬ n2 = 0 := by omega
  have hk := hA.kind
  have hr := hA.route hn2
  have HS := Lib.hid hS
  have HT := Lib.hid (h.keep hS)
  clear hA hS hn2 h
  obtain ⟨k, r⟩ := i
  simp only at hk hr ⊢
  have HW1 := Lib.hid (putWhere b l false r 9 _ HT.out)
  have HW2 := Lib.hid (putWhere b l true r 8 _ HT.out)
  have HW3 := Lib.hid (withdraw b l r _ HT.out)
  generalize ic ⟨k, r⟩ = I at *
  generalize rc r = R at *
  unfold doS
  by_cases h1 : k = 1
  · rw [if_pos h1]
    have hk1 : (k == 1) = true := by simpa using h1
    have HE1 : Hid ((if rightR r then (if hasP l r.to = false then putS l r else (l, 9)) else (l, 1)) = if rightR r then (if hasP l r.to = true then (l, 9) else putS l r) else (l, 1)) := by
      show (if rightR r then (if hasP l r.to = false then putS l r else (l, 9)) else (l, 1)) = _
      cases hasP l r.to <;> simp
    rw [HE1.out] at HW1
    clear h1 HW2 HW3
    generalize (if rightR r then (if hasP l r.to = true then (l, 9) else putS l r) else (l, 1)) = X at *
    go_enter Try.func26, Try.ntmps26
    go_wp2_with fail
    refine HW1.out.mono ?_
    rintro e w3 ⟨rfl, t3, o3⟩
    have HE := Lib.hid (show TbPost b w X (.returned (.int .i64 X.2)) w3 from ⟨rfl, t3, (Only.keep HS.out).trans o3⟩)
    clear t3 o3
    go_wp2
    go_ret
    exact HE.out
  · rw [if_neg h1]
    have hk1 : (k == 1) = false := by simpa using h1
    by_cases h2 : k = 2
    · rw [if_pos h2]
      have hk2 : (k == 2) = true := by simpa using h2
      clear h1 h2 HW1 HW3
      generalize (if rightR r then (if hasP l r.to = true then putS l r else (l, 8)) else (l, 1)) = X at *
      go_enter Try.func26, Try.ntmps26
      go_wp2_with fail
      refine HW2.out.mono ?_
      rintro e w3 ⟨rfl, t3, o3⟩
      have HE := Lib.hid (show TbPost b w X (.returned (.int .i64 X.2)) w3 from ⟨rfl, t3, (Only.keep HS.out).trans o3⟩)
      clear t3 o3
      go_wp2
      go_ret
      exact HE.out
    · rw [if_neg h2]
      have hk2 : (k == 2) = false := by simpa using h2
      by_cases h3 : k = 3
      · rw [if_pos h3]
        have hk3 : (k == 3) = true := by simpa using h3
        clear h1 h2 h3 HW1 HW2
        generalize (if rightP r.to ∧ r = wd r then dropS l r.to else (l, 1)) = X at *
        go_enter Try.func26, Try.ntmps26
        go_wp2_with fail
        refine HW3.out.mono ?_
        rintro e w3 ⟨rfl, t3, o3⟩
        have HE := Lib.hid (show TbPost b w X (.returned (.int .i64 X.2)) w3 from ⟨rfl, t3, (Only.keep HS.out).trans o3⟩)
        clear t3 o3
        go_wp2
        go_ret
        exact HE.out
      · rw [if_neg h3]
        have hk3 : (k == 3) = false := by simpa using h3
        clear h1 h2 h3 HW1 HW2 HW3
        go_enter Try.func26, Try.ntmps26
        go_wp2
        go_ret
        exact ⟨rfl, HT.out, Only.keep HS.out⟩

/-! ### Lists compared -/
theorem drop_cons' {α : Type} {l : List α} {i : Nat} {x : α} (h : l[i]? = some x) : l.drop i = x :: l.drop (i + 1) := by
  obtain ⟨h1, h2⟩ := List.getElem?_eq_some_iff.1 h
  rw [List.drop_eq_getElem_cons h1, h2]
def EqRel (W : World) (l m : List Rt) (i : Value) (wr : World) : Prop := ∃ k : Nat, i = .int .i64 k ∧ k ≤ l.length ∧ l.take k = m.take k ∧ Keep W wr

set_option maxRecDepth 100000 in
set_option maxHeartbeats 1000000 in
theorem equal (u v : Value) (l m : List Rt) (w : World) (hu : Cells rl w u l) (hv : Cells rl w v m) (hl : l.length ≤ 1000000) (_hm : m.length ≤ 1000000) : Calls Try.prog 64 #[u, v] w fun e w' => e = .returned (.bool (decide (l = m))) ∧ Keep w w' := by
  obtain ⟨a1, c1, rfl, _, _⟩ := hu.form
  obtain ⟨a2, c2, rfl, _, _⟩ := hv.form
  obtain ⟨n, hn⟩ : ∃ n, n = 20 := ⟨20, rfl⟩
  have hsz : ∀ w, (Go.sizeOf 37).run Try.prog w = .ok n w := fun w => by rw [hn]; exact Try.sizeOf37 w
  have hn0 : ¬ n = 0 := by omega
  have HN := Lib.hid hn
  clear hn
  by_cases hlen : l.length = m.length
  · have hne : ((l.length : Int) != (m.length : Int)) = false := by simp [hlen]
    have HU := Lib.hid hu
    have HV := Lib.hid hv
    have HLE := Lib.hid hlen
    clear hu hv
    obtain ⟨N, hN⟩ : ∃ N, l.length = N := ⟨_, rfl⟩
    obtain ⟨M, hM⟩ : ∃ M, m.length = M := ⟨_, rfl⟩
    have HLN := Lib.hid hN
    have HMN := Lib.hid hM
    rw [hN] at hne hl hlen
    rw [hM] at hne _hm hlen
    rw [hN, hM]
    obtain ⟨D, hD⟩ : ∃ D, decide (l = m) = D := ⟨_, rfl⟩
    rw [hD]
    have HD := Lib.hid hD
    clear hN hM hD
    go_enter Try.func64, Try.ntmps64
    go_wp2
    go_loopw [13] (fun i wr => EqRel w l m i wr) (fun i _ => N - (intOf i).toNat)
    case atStart => exact ⟨0, rfl, Nat.zero_le _, rfl, Keep.refl _⟩
    case round =>
      obtain ⟨k, rfl, hk1, hk2, hk⟩ := hrel
      rw [HLN.out] at hk1
      by_cases hlt : k < N
      · have hltm : k < M := by omega
        obtain ⟨g1, o1, cap1, e1, _, _, _⟩ := HU.out.ptr k (by rw [HLN.out]; exact hlt)
        obtain ⟨g2, o2, cap2, e2, _, _, _⟩ := HV.out.ptr k (by rw [HMN.out]; exact hltm)
        simp at e1 e2
        obtain ⟨rfl, rfl⟩ := e1
        obtain ⟨rfl, rfl⟩ := e2
        obtain ⟨x, hx⟩ : ∃ x, l[k]? = some x := ⟨_, List.getElem?_eq_getElem (by rw [HLN.out]; exact hlt)⟩
        obtain ⟨y, hy⟩ : ∃ y, m[k]? = some y := ⟨_, List.getElem?_eq_getElem (by rw [HMN.out]; exact hltm)⟩
        have d1 : ∀ u : KW wr, (loadCellsFrom ⟨g1, o1 + k * n, none⟩ 0 n #[]).run Try.prog u.1 = .ok (rc x) u.1 := fun u => (HU.out.keep (hk.trans u.2)).rt HN.out k x hx
        have d2 : ∀ u : KW wr, (loadCellsFrom ⟨g2, o2 + k * n, none⟩ 0 n #[]).run Try.prog u.1 = .ok (rc y) u.1 := fun u => (HV.out.keep (hk.trans u.2)).rt HN.out k y hy
        have heq : ∀ w, (Op.equalIn 10000 37 (.agg (rc x)) (.agg (rc y))).run Try.prog w = .ok (decide (x = y)) w := fun w => eq_rc 9995 x y w
        have HX := Lib.hid hx
        have HY := Lib.hid hy
        have HK := Lib.hid hk
        have HTK := Lib.hid hk2
        clear hx hy hk hk2
        by_cases hxy : x = y
        · simp only [decide_eq_true hxy] at heq
          have HXY := Lib.hid hxy
          clear hxy
          generalize rc x = X at *
          generalize rc y = Y at *
          go_wp2_with fail
          refine wp_region_keep (Keep.refl _) (by kernel_rfl) (by kernel_rfl) ?_
          repeat (first | go_big_quiet_step (fail) | quiet_step (fail))
          refine wpQuiet_nil ?_
          rintro w6 ⟨⟨w7, b7⟩, rfl⟩
          have HK7 := Lib.hid (HK.out.trans b7)
          clear HK b7 d1 d2 heq
          go_wp2
          go_roundw
          case rel => exact ⟨k + 1, by go_num, by rw [HLN.out]; omega, by rw [List.take_add_one, List.take_add_one, HTK.out, HX.out, HY.out, HXY.out], HK7.out⟩
          case measure => simp [intOf]; omega
        · simp only [decide_eq_false hxy] at heq
          have HXY := Lib.hid hxy
          clear hxy
          generalize rc x = X at *
          generalize rc y = Y at *
          go_wp2_with fail
          refine wp_region_keep (Keep.refl _) (by kernel_rfl) (by kernel_rfl) ?_
          repeat (first | go_big_quiet_step (fail) | quiet_step (fail))
          refine wpQuiet_nil ?_
          rintro w6 ⟨⟨w7, b7⟩, rfl⟩
          have HK7 := Lib.hid (HK.out.trans b7)
          clear HK b7 d1 d2 heq
          go_wp2
          go_ret
          refine ⟨?_, HK7.out⟩
          rw [← HD.out, decide_eq_false (fun e => HXY.out (by have h1 := HX.out; rw [e, HY.out] at h1; simpa using h1.symm))]
          rfl
      · have hlm : l = m := by
          rw [List.take_of_length_le (by rw [HLN.out]; omega), List.take_of_length_le (by rw [HMN.out]; omega)] at hk2
          exact hk2
        have hDt : D = true := by rw [← HD.out]; exact decide_eq_true hlm
        have HDT := Lib.hid hDt
        have HK := Lib.hid hk
        clear hlm hk2 hDt hk
        go_wp2
        go_ret
        refine ⟨?_, HK.out⟩
        rw [HDT.out]
        rfl
  · have hne : ((l.length : Int) != (m.length : Int)) = true := by simp; omega
    obtain ⟨N, hN⟩ : ∃ N, l.length = N := ⟨_, rfl⟩
    obtain ⟨M, hM⟩ : ∃ M, m.length = M := ⟨_, rfl⟩
    rw [decide_eq_false (fun e => hlen (by rw [e]))]
    rw [hN, hM] at hne ⊢
    clear hu hv hlen hN hM hl _hm
    go_enter Try.func64, Try.ntmps64
    go_wp2
    go_ret
    exact ⟨rfl, Keep.refl _⟩

set_option maxRecDepth 100000 in
theorem same (s t : Value) (l m : List Rt) (w : World) (h1 : Tp w s l) (h2 : Tp w t m) : Calls Try.prog 29 #[s, t] w fun e w' => e = .returned (.bool (decide (l = m))) ∧ Keep w w' := by
  obtain ⟨u, hu, cu⟩ := rows_of h1
  obtain ⟨v, hv, cv⟩ := rows_of h2
  have HU := Lib.hid hu
  have HV := Lib.hid hv
  have CU := Lib.hid cu
  have CV := Lib.hid cv
  have f1 := h1.few
  have f2 := h2.few
  clear h1 h2 hu hv cu cv
  have HEQ := Lib.hid (fun w h k => equal u v l m w h k (by omega) (by omega))
  generalize decide (l = m) = D at *
  go_enter Try.func29, Try.ntmps29
  go_wp2_with fail
  refine (CU.out w (Keep.refl _)).mono ?_
  rintro e w1 ⟨rfl, b1⟩
  go_wp2_with fail
  refine (CV.out w1 b1).mono ?_
  rintro e w2 ⟨rfl, b2⟩
  have HE := Lib.hid (HEQ.out w2 (HU.out.cells.keep (b1.trans b2)) (HV.out.cells.keep (b1.trans b2)))
  have HK := Lib.hid (b1.trans b2)
  clear b1 b2 HEQ
  go_wp2_with fail
  refine HE.out.mono ?_
  rintro e w3 ⟨rfl, b3⟩
  go_wp2
  go_ret
  exact ⟨rfl, HK.out.trans b3⟩
end Go.Proofs.Ytfikdeobejhblaa

/- Proved: what table's aheadOf and Changes answer. Condition: the tables lie in memory, or are none. -/
namespace Go.Proofs.Ytfikdeobejhblaa
open Go.RowKit

def ahd : List Rt → List Rt → Int
  | [], _ => 1
  | _ :: _, [] => -1
  | a :: _, b :: _ => cmpP a.to b.to
/-- What makes the one of the other. -/
def chg : List Rt → List Rt → List Ic
  | [], [] => []
  | a :: l, [] => ⟨3, wd a⟩ :: chg l []
  | [], b :: m => ⟨1, b⟩ :: chg [] m
  | a :: l, b :: m => if cmpP a.to b.to < 0 then ⟨3, wd a⟩ :: chg l (b :: m) else if 0 < cmpP a.to b.to then ⟨1, b⟩ :: chg (a :: l) m else if a = b then chg l m else ⟨2, b⟩ :: chg l m
termination_by l m => l.length + m.length
theorem chg_old (a : Rt) (l m : List Rt) (h : ahd (a :: l) m < 0) : chg (a :: l) m = ⟨3, wd a⟩ :: chg l m := by
  cases m with
  | nil => rw [chg]
  | cons b m =>
    simp only [ahd] at h
    rw [chg, if_pos h]
theorem ahd_one (m : List Rt) : ahd [] m = 1 := rfl
theorem chg_new (b : Rt) (l m : List Rt) (h : 0 < ahd l (b :: m)) : chg l (b :: m) = ⟨1, b⟩ :: chg l m := by
  cases l with
  | nil => rw [chg]
  | cons a l =>
    simp only [ahd] at h
    rw [chg, if_neg (by omega), if_pos h]
theorem chg_same (a b : Rt) (l m : List Rt) (h : ahd (a :: l) (b :: m) = 0) : chg (a :: l) (b :: m) = if a = b then chg l m else ⟨2, b⟩ :: chg l m := by
  simp only [ahd] at h
  rw [chg, if_neg (by omega), if_neg (by omega)]
theorem chg_nil : chg [] [] = [] := by rw [chg]

def vlen : Value → Nat
  | .slice _ n _ => n
  | _ => 0

theorem Cells.rt0 {w : World} {g o cap n : Nat} {l : List Rt} {x : Rt} (h : Cells rl w (.slice (some ⟨g, o, none⟩) (x :: l).length cap) (x :: l)) (hn : n = 20) : (loadCellsFrom ⟨g, o, none⟩ 0 n #[]).run Try.prog w = .ok (rc x) w := by
  have := h.rt hn 0 x rfl
  simpa using this
theorem Cells.to {w : World} {g o cap n k : Nat} {l : List Rt} (h : Cells rl w (.slice (some ⟨g, o, none⟩) l.length cap) l) (hn : n = 18) (hk : k = 20) (j : Nat) (x : Rt) (hx : l[j]? = some x) : (loadCellsFrom ⟨g, o + j * k, none⟩ 0 n #[]).run Try.prog w = .ok (pc x.to) w := by
  have := h.load (P := Try.prog) (n := n) rl_len j x hx 0 18 (pc x.to).toList (rl_to x).symm (by omega) hn
  rw [Nat.add_zero, ← hk] at this
  simpa using this
theorem Cells.to0 {w : World} {g o cap n : Nat} {l : List Rt} {x : Rt} (h : Cells rl w (.slice (some ⟨g, o, none⟩) (x :: l).length cap) (x :: l)) (hn : n = 18) : (loadCellsFrom ⟨g, o, none⟩ 0 n #[]).run Try.prog w = .ok (pc x.to) w := by
  have := h.to (k := 20) hn rfl 0 x rfl
  simpa using this

theorem Row.inc (w : World) (i : Ic) : Row il 52 (w.alloc (.cells (ic i) 52)) (.slice (some ⟨w.heap.size, 0, none⟩) 1 1) [i] := by
  have hb : (w.alloc (.cells (ic i) 52)).heap[w.heap.size]? = some (.cells (ic i) 52 (0, 0)) := heap_alloc_last w _
  refine ⟨.inr ⟨w.heap.size, 0, 1, rfl, Nat.le_refl _, by simp [maxLen], block_lt hb, fun j u hj => ?_⟩, fun g hg => ?_⟩
  · rw [flat_one] at hj
    exact cell_obj hb (by rw [Nat.zero_add]; simpa [ic] using hj)
  · simp [Value.ownBlock] at hg
    subst hg
    exact ⟨_, _, hb⟩
end Go.Proofs.Ytfikdeobejhblaa

/- Proved: what table's Changes answers. Condition: the tables lie in memory, or are none. -/
namespace Go.Proofs.Ytfikdeobejhblaa
open Go.RowKit

theorem Row.grown {α β : Type} {enc : α → List Value} {enc' : β → List Value} {t t' : TypeId} {w w' : World} {v s : Value} {l : List α} {m : List β} (h : Row enc t w v l) (o : Row enc' t' w s m) (ht : t ≠ t') (hg : w.grownBy w' s.ownBlock) : Row enc t w' v l := by
  have hb : ∀ g, v.ownBlock = some g → w'.heap[g]? = w.heap[g]? := fun g e => by
    refine hg.block g (h.cells.lt e) (fun e2 => ?_)
    obtain ⟨c1, f1, h1⟩ := h.tag g e
    obtain ⟨c2, f2, h2⟩ := o.tag g e2.symm
    rw [h1] at h2
    simp at h2
    exact ht h2.2.1
  exact ⟨h.cells.block hg.size hb, fun g e => by
    obtain ⟨c1, f1, h1⟩ := h.tag g e
    exact ⟨c1, f1, (hb g e).trans h1⟩⟩

def ChRel (W : World) (l m : List Rt) (s u v : Value) (wr : World) : Prop :=
  ∃ (out : List Ic) (old fresh : List Rt), Own 52 21 il W.heap.size wr s out ∧ Row rl 37 wr u old ∧ Row rl 37 wr v fresh ∧ out ++ chg old fresh = chg l m ∧ out.length + (old.length + fresh.length) ≤ l.length + m.length ∧ Keep W wr

/-- What is left. -/
theorem step_old {l m : List Rt} {out : List Ic} {a : Rt} {old fresh : List Rt} (he : out ++ chg (a :: old) fresh = chg l m) (h : ahd (a :: old) fresh < 0) : (out ++ [⟨3, wd a⟩]) ++ chg old fresh = chg l m := by
  rw [← he, chg_old a old fresh h, List.append_assoc]
  rfl
theorem step_new {l m : List Rt} {out : List Ic} {b : Rt} {old fresh : List Rt} (he : out ++ chg old (b :: fresh) = chg l m) (h : 0 < ahd old (b :: fresh)) : (out ++ [⟨1, b⟩]) ++ chg old fresh = chg l m := by
  rw [← he, chg_new b old fresh h, List.append_assoc]
  rfl
theorem ahd_neg {l m : List Rt} (h : ahd l m < 0) : ∃ a k, l = a :: k := by
  cases l with
  | nil => simp [ahd] at h
  | cons a k => exact ⟨a, k, rfl⟩
theorem ahd_pos {l m : List Rt} (h : 0 < ahd l m) (hne : ¬ (l = [] ∧ m = [])) : ∃ b k, m = b :: k := by
  cases m with
  | nil =>
    cases l with
    | nil => exact absurd ⟨rfl, rfl⟩ hne
    | cons a k => simp [ahd] at h
  | cons b k => exact ⟨b, k, rfl⟩
theorem ahd_zero {l m : List Rt} (h : ahd l m = 0) : ∃ a k b j, l = a :: k ∧ m = b :: j := by
  cases l with
  | nil => simp [ahd] at h
  | cons a k =>
    cases m with
    | nil => simp [ahd] at h
    | cons b j => exact ⟨a, k, b, j, rfl, rfl⟩

end Go.Proofs.Ytfikdeobejhblaa
