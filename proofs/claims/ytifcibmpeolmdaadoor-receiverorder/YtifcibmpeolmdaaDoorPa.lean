/- Proved: a receiver in memory: its cells, what of them is read, what a store makes of them. No condition. -/
import Derived.Test.YtifcibmpeolmdaaDoorMk
namespace Go.Proofs.YtifcibmpeolmdaaDoor
open Go.RowKit

def mv (m : Option Nat) : Value := .map m
def vc (bm bc : Nat) (m : Option Nat) (r : Rv) : Array Value := #[.int .i64 r.ses, .int .i64 r.ep, .slice (some ⟨bc, 0, none⟩) r.c.length r.c.length, .pointer (some ⟨bm, 0, none⟩), .map m]
/-- Counts lie in a map, or there is none yet. -/
def D (w : World) (m : Option Nat) (d : Int → Nat) : Prop := (m = none ∧ d = fun _ => 0) ∨ ∃ k, m = some k ∧ MapC w k d
def blks (b bm bc : Nat) (m : Option Nat) : List Nat := b :: bm :: bc :: m.toList
theorem D.keep {w w' : World} {m : Option Nat} {d : Int → Nat} (h : D w m d) (k : Keep w w') : D w' m d := by
  rcases h with h | ⟨x, h1, h2⟩
  · exact .inl h
  · exact .inr ⟨x, h1, h2.keep k⟩
theorem D.turn {K : List Nat} {w w' : World} {m : Option Nat} {d : Int → Nat} (h : D w m d) (k : Turn K w w') (hm : ∀ x, m = some x → x ∉ K) : D w' m d := by
  rcases h with h | ⟨x, h1, h2⟩
  · exact .inl h
  · exact .inr ⟨x, h1, h2.turn k (hm x h1)⟩
theorem D.lt {w : World} {m : Option Nat} {d : Int → Nat} (h : D w m d) : ∀ x, m = some x → x < w.heap.size := by
  intro x hx
  rcases h with h | ⟨y, h1, h2⟩
  · rw [h.1] at hx; cases hx
  · rw [h1] at hx; cases hx; exact h2.lt
theorem D.look {w : World} {m : Option Nat} {d : Int → Nat} (h : D w m d) (q : Int) : (Instr.lookup 68 (.map m) (.int .i64 q) false).run Tryd.prog w = .ok (.int .i64 (d q : Nat)) w := by
  rcases h with ⟨rfl, rfl⟩ | ⟨y, rfl, h2⟩
  · exact look_none q w
  · exact h2.look q

/-- A receiver lies in block b, its map in bm, its chunks in bc, its counts in m. -/
structure S (w : World) (b bm bc : Nat) (m : Option Nat) (r : Rv) : Prop where
  block : w.heap[b]? = some (.cells (vc bm bc m r) 70 (0, 0))
  chunks : w.heap[bc]? = some (.cells (tc r.c) 9 (0, 0))
  map : M w bm r.l
  cnt : D w m r.d
  pos : 0 < b
  posc : 0 < bc
  posm : ∀ x, m = some x → 0 < x
  ne1 : b ≠ bm
  ne2 : b ≠ bc
  ne3 : bm ≠ bc
  far : ∀ x, m = some x → x ≠ b ∧ x ≠ bm ∧ x ≠ bc
  good : Good r
section
variable {w w' : World} {b bm bc : Nat} {m : Option Nat} {r : Rv}
theorem S.keep (h : S w b bm bc m r) (k : Keep w w') : S w' b bm bc m r := ⟨k.obj h.block, k.obj h.chunks, h.map.keep k, h.cnt.keep k, h.pos, h.posc, h.posm, h.ne1, h.ne2, h.ne3, h.far, h.good⟩
theorem S.turn {K : List Nat} (h : S w b bm bc m r) (k : Turn K w w') (h0 : 0 ∉ K) (h1 : b ∉ K) (h2 : bm ∉ K) (h3 : bc ∉ K) (h4 : ∀ x, m = some x → x ∉ K) : S w' b bm bc m r :=
  ⟨k.obj h.block h1, k.obj h.chunks h3, h.map.turn k h2 h0, h.cnt.turn k h4, h.pos, h.posc, h.posm, h.ne1, h.ne2, h.ne3, h.far, h.good⟩
theorem S.ses (h : S w b bm bc m r) : w.cell? ⟨b, 0, none⟩ = some (.int .i64 r.ses) := cell_obj h.block rfl
theorem S.ep (h : S w b bm bc m r) : w.cell? ⟨b, 1, none⟩ = some (.int .i64 r.ep) := cell_obj h.block rfl
theorem S.list (h : S w b bm bc m r) : w.cell? ⟨b, 2, none⟩ = some (.slice (some ⟨bc, 0, none⟩) r.c.length r.c.length) := cell_obj h.block rfl
theorem S.ptr (h : S w b bm bc m r) : w.cell? ⟨b, 3, none⟩ = some (.pointer (some ⟨bm, 0, none⟩)) := cell_obj h.block rfl
theorem S.drops (h : S w b bm bc m r) : w.cell? ⟨b, 4, none⟩ = some (.map m) := cell_obj h.block rfl
theorem S.free (h : S w b bm bc m r) (i : Nat) : w.frozen? ⟨b, i, none⟩ = false := by simp [World.frozen?, h.block]
theorem S.freec (h : S w b bm bc m r) (i : Nat) : w.frozen? ⟨bc, i, none⟩ = false := by simp [World.frozen?, h.chunks]
theorem S.lt (h : S w b bm bc m r) : b < w.heap.size := block_lt h.block
theorem S.ltc (h : S w b bm bc m r) : bc < w.heap.size := block_lt h.chunks
theorem S.ltm (h : S w b bm bc m r) : bm < w.heap.size := h.map.lt
theorem S.text (h : S w b bm bc m r) (i : Nat) (hi : i < r.c.length) : w.cell? ⟨bc, i, none⟩ = some (.string ⟨(r.c.getD i []).toArray⟩) := cell_obj h.chunks (tc_get _ _ hi)
theorem S.texts (h : S w b bm bc m r) : TexS w (.slice (some ⟨bc, 0, none⟩) r.c.length r.c.length) r.c := cel_texts r.c h.chunks h.good.few
theorem S.low (h : S w b bm bc m r) : ∀ k ∈ blks b bm bc m, k < w.heap.size := by
  intro k hk
  simp only [blks, List.mem_cons, Option.mem_toList] at hk
  rcases hk with rfl | rfl | rfl | hk
  · exact h.lt
  · exact h.ltm
  · exact h.ltc
  · exact h.cnt.lt k hk
theorem S.pos0 (h : S w b bm bc m r) : 0 ∉ blks b bm bc m := by
  intro hk
  simp only [blks, List.mem_cons, Option.mem_toList] at hk
  have h1 := h.pos; have h2 := h.posc; have h3 := h.map.pos
  rcases hk with e | e | e | hk
  · omega
  · omega
  · omega
  · have := h.posm 0 hk; omega
theorem in_b : b ∈ blks b bm bc m := by simp [blks]
theorem in_bm : bm ∈ blks b bm bc m := by simp [blks]
theorem in_bc : bc ∈ blks b bm bc m := by simp [blks]
theorem in_m {x : Nat} (h : m = some x) : x ∈ blks b bm bc m := by subst h; simp [blks]

/-! ### Stores -/
/-- A map is made, for the first count. -/
theorem S.setMap {x : Nat} (h : S w b bm bc none r) (hx : MapC w x (fun _ => 0)) (h0 : 0 < x) (h1 : x ≠ b ∧ x ≠ bm ∧ x ≠ bc) : S (w.setCell ⟨b, 4, none⟩ (.map (some x))) b bm bc (some x) r :=
  have k : Turn [b] w (w.setCell ⟨b, 4, none⟩ (.map (some x))) := Turn.setCell w b 4 _ (by simp)
  have hd : r.d = fun _ => 0 := by
    rcases h.cnt with h | ⟨y, h, _⟩
    · exact h.2
    · cases h
  ⟨block_set h.block 4 _, k.obj h.chunks (by simp; exact Ne.symm h.ne2), h.map.turn k (by simp; exact Ne.symm h.ne1) (by simp; exact Nat.ne_of_lt h.pos), .inr ⟨x, rfl, by rw [hd]; exact hx.turn k (by simp; exact h1.1)⟩, h.pos, h.posc, fun y hy => by cases hy; exact h0, h.ne1, h.ne2, h.ne3, fun y hy => by cases hy; exact h1, h.good⟩
/-- A count has risen. -/
theorem S.counted {x : Nat} (h : S w b bm bc (some x) r) (e : Int) (k : Only x w w') (hm : MapC w' x (upd r.d e (r.d e + 1))) : S w' b bm bc (some x) (r.count e) := by
  have t : Turn [x] w w' := Turn.only k (by simp)
  obtain ⟨f1, f2, f3⟩ := h.far x rfl
  refine ⟨t.obj h.block (by simp; exact Ne.symm f1), t.obj h.chunks (by simp; exact Ne.symm f3), h.map.turn t (by simp; exact Ne.symm f2) (by simp; exact Nat.ne_of_lt (h.posm x rfl)), .inr ⟨x, rfl, ?_⟩, h.pos, h.posc, h.posm, h.ne1, h.ne2, h.ne3, h.far, h.good.count e⟩
  have ed : (r.count e).d = upd r.d e (r.d e + 1) := by
    funext k
    show (if k = e then r.d k + 1 else r.d k) = if k = e then r.d e + 1 else r.d k
    split
    · rename_i h; rw [h]
    · rfl
  rw [ed]
  exact hm
/-- A chunk is there. -/
theorem S.kept (h : S w b bm bc m r) (i : Nat) (s : List UInt8) (hi : i < r.c.length) (hs : s.length ≤ 1000) {v : World} (k : Only bm w v) (hm : M v bm (r.l.set i true)) : S (v.setCell ⟨bc, i, none⟩ (.string ⟨s.toArray⟩)) b bm bc m (r.keep i s) := by
  have t : Turn [bm] w v := Turn.only k (by simp)
  have t2 : Turn [bc] v (v.setCell ⟨bc, i, none⟩ (.string ⟨s.toArray⟩)) := Turn.setCell v bc _ _ (by simp)
  have t3 : Turn [bm, bc] w (v.setCell ⟨bc, i, none⟩ (.string ⟨s.toArray⟩)) := (t.mono (by simp)).trans (t2.mono (by simp))
  have hb := block_set (t.obj h.chunks (by simp; exact Ne.symm h.ne3)) i (.string ⟨s.toArray⟩)
  rw [tc_set] at hb
  have e1 : vc bm bc m (r.keep i s) = vc bm bc m r := by
    unfold vc Rv.keep
    simp only [List.length_set]
  refine ⟨by rw [e1]; exact t3.obj h.block (by simp; exact ⟨h.ne1, h.ne2⟩), hb, hm.turn t2 (by simp; exact h.ne3) (by simp; exact Nat.ne_of_lt h.posc), h.cnt.turn t3 (fun x hx => by simp; exact (h.far x hx).2), h.pos, h.posc, h.posm, h.ne1, h.ne2, h.ne3, h.far, h.good.keep hi hs⟩
end
end Go.Proofs.YtifcibmpeolmdaaDoor
