/- Proved: the document's receiver in memory: its cells, what of them is read, what a store makes of them; what the document's May answers. No condition. -/
import Derived.Test.YtifcibmpeolmdaaDoorPh
namespace Go.Proofs.YtifcibmpeolmdaaDoor
open Go.RowKit

/-- The counts of the first twenty errors. -/
def dl (d : Int → Nat) : List Nat := (List.range 20).map fun i : Nat => d (i : Int)
theorem dl_len (d : Int → Nat) : (dl d).length = 20 := by simp [dl]
theorem dl_get (d : Int → Nat) (i : Nat) (h : i < 20) : (dl d)[i]? = some (d (i : Int)) := by
  unfold dl
  rw [List.getElem?_map, List.getElem?_range h]; rfl
theorem dl_count (r : Rv) (e : Nat) (he : e < 20) : dl (r.count e).d = (dl r.d).set e (r.d e + 1) := by
  refine List.ext_getElem? fun i => ?_
  rw [List.getElem?_set]
  by_cases hi : i < 20
  · rw [dl_get _ _ hi]
    by_cases h : e = i
    · subst h
      rw [if_pos rfl, if_pos (by rw [dl_len]; exact hi)]
      show some (if (e : Int) = (e : Int) then _ else _) = _
      rw [if_pos rfl]
    · rw [if_neg h, dl_get _ _ hi]
      show some (if (i : Int) = (e : Int) then _ else _) = _
      rw [if_neg (by omega)]
  · rw [List.getElem?_eq_none (by rw [dl_len]; omega), if_neg (by omega), List.getElem?_eq_none (by rw [dl_len]; omega)]
def dc (bi bc bd : Nat) (r : Rv) : Array Value := #[.int .i64 r.ses, .int .i64 r.ep, .slice (some ⟨bi, 0, none⟩) r.c.length r.c.length, .slice (some ⟨bc, 0, none⟩) r.c.length r.c.length, .slice (some ⟨bd, 0, none⟩) 20 20]
/-- The document's receiver lies in block g, which are there in bi, the chunks in bc, the counts in bd. -/
structure R (w : World) (g bi bc bd : Nat) (r : Rv) : Prop where
  block : w.heap[g]? = some (.cells (dc bi bc bd r) 41 (0, 0))
  inn : w.heap[bi]? = some (.cells (bc8 r.l) 4 (0, 0))
  txt : w.heap[bc]? = some (.cells (tc r.c) 9 (0, 0))
  cnt : w.heap[bd]? = some (.cells (nc (dl r.d)) 3 (0, 0))
  pos : 0 ∉ [g, bi, bc, bd]
  ne1 : g ≠ bi
  ne2 : g ≠ bc
  ne3 : g ≠ bd
  ne4 : bi ≠ bc
  ne5 : bi ≠ bd
  ne6 : bc ≠ bd
  good : Good r
section
variable {w w' : World} {g bi bc bd : Nat} {r : Rv}
theorem R.keep (h : R w g bi bc bd r) (k : Keep w w') : R w' g bi bc bd r := ⟨k.obj h.block, k.obj h.inn, k.obj h.txt, k.obj h.cnt, h.pos, h.ne1, h.ne2, h.ne3, h.ne4, h.ne5, h.ne6, h.good⟩
theorem R.turn {K : List Nat} (h : R w g bi bc bd r) (k : Turn K w w') (h1 : g ∉ K) (h2 : bi ∉ K) (h3 : bc ∉ K) (h4 : bd ∉ K) : R w' g bi bc bd r :=
  ⟨k.obj h.block h1, k.obj h.inn h2, k.obj h.txt h3, k.obj h.cnt h4, h.pos, h.ne1, h.ne2, h.ne3, h.ne4, h.ne5, h.ne6, h.good⟩
theorem R.ses (h : R w g bi bc bd r) : w.cell? ⟨g, 0, none⟩ = some (.int .i64 r.ses) := cell_obj h.block rfl
theorem R.ep (h : R w g bi bc bd r) : w.cell? ⟨g, 1, none⟩ = some (.int .i64 r.ep) := cell_obj h.block rfl
theorem R.i (h : R w g bi bc bd r) : w.cell? ⟨g, 2, none⟩ = some (.slice (some ⟨bi, 0, none⟩) r.c.length r.c.length) := cell_obj h.block rfl
theorem R.c (h : R w g bi bc bd r) : w.cell? ⟨g, 3, none⟩ = some (.slice (some ⟨bc, 0, none⟩) r.c.length r.c.length) := cell_obj h.block rfl
theorem R.d (h : R w g bi bc bd r) : w.cell? ⟨g, 4, none⟩ = some (.slice (some ⟨bd, 0, none⟩) 20 20) := cell_obj h.block rfl
theorem R.there (h : R w g bi bc bd r) (k : Nat) (hk : k < r.c.length) : w.cell? ⟨bi, k, none⟩ = some (.bool (r.l.getD k false)) := cell_obj h.inn (bc_get _ _ (by rw [h.good.len]; exact hk))
theorem R.text (h : R w g bi bc bd r) (k : Nat) (hk : k < r.c.length) : w.cell? ⟨bc, k, none⟩ = some (.string ⟨(r.c.getD k []).toArray⟩) := cell_obj h.txt (tc_get _ _ hk)
theorem R.count (h : R w g bi bc bd r) (k : Nat) (hk : k < 20) : w.cell? ⟨bd, k, none⟩ = some (.int .i64 (r.d k : Nat)) := cell_obj h.cnt (nc_get _ _ _ (dl_get _ _ hk))
theorem R.freei (h : R w g bi bc bd r) (k : Nat) : w.frozen? ⟨bi, k, none⟩ = false := by simp [World.frozen?, h.inn]
theorem R.freec (h : R w g bi bc bd r) (k : Nat) : w.frozen? ⟨bc, k, none⟩ = false := by simp [World.frozen?, h.txt]
theorem R.freed (h : R w g bi bc bd r) (k : Nat) : w.frozen? ⟨bd, k, none⟩ = false := by simp [World.frozen?, h.cnt]
theorem R.bools (h : R w g bi bc bd r) : CelO w (.slice (some ⟨bi, 0, none⟩) r.c.length r.c.length) r.l := by
  have := cel_bool r.l h.inn (by rw [h.good.len]; exact h.good.few)
  rwa [h.good.len] at this
theorem R.low (h : R w g bi bc bd r) : ∀ k ∈ [g, bi, bc, bd], k < w.heap.size := by
  intro k hk
  simp only [List.mem_cons, List.not_mem_nil, or_false] at hk
  rcases hk with rfl | rfl | rfl | rfl
  · exact block_lt h.block
  · exact block_lt h.inn
  · exact block_lt h.txt
  · exact block_lt h.cnt
/-- A count has risen. -/
theorem R.counted (h : R w g bi bc bd r) (e : Nat) (he : e < 20) : R (w.setCell ⟨bd, e, none⟩ (.int .i64 (r.d e + 1 : Nat))) g bi bc bd (r.count e) := by
  have t : Turn [bd] w (w.setCell ⟨bd, e, none⟩ (.int .i64 (r.d e + 1 : Nat))) := Turn.setCell w bd _ _ (by simp)
  have hb := block_set h.cnt e (.int .i64 (r.d e + 1 : Nat))
  rw [nc_set, ← dl_count r e he] at hb
  exact ⟨t.obj h.block (by simp; exact h.ne3), t.obj h.inn (by simp; exact h.ne5), t.obj h.txt (by simp; exact h.ne6), hb, h.pos, h.ne1, h.ne2, h.ne3, h.ne4, h.ne5, h.ne6, h.good.count e⟩
/-- A chunk is there. -/
theorem R.kept (h : R w g bi bc bd r) (i : Nat) (s : List UInt8) (hi : i < r.c.length) (hs : s.length ≤ 1000) {u v : World} (ku : Keep (w.setCell ⟨bi, i, none⟩ (.bool true)) u) (kv : Keep (u.setCell ⟨bc, i, none⟩ (.string ⟨s.toArray⟩)) v) : R v g bi bc bd (r.keep i s) := by
  have t1 : Turn [bi] w u := (Turn.setCell w bi _ _ (by simp)).thenKeep ku
  have t2 : Turn [bc] u (u.setCell ⟨bc, i, none⟩ (.string ⟨s.toArray⟩)) := Turn.setCell u bc _ _ (by simp)
  have t3 : Turn [bi, bc] w (u.setCell ⟨bc, i, none⟩ (.string ⟨s.toArray⟩)) := (t1.mono (by simp)).trans (t2.mono (by simp))
  have hb1 := ku.obj (block_set h.inn i (.bool true))
  rw [bc_set] at hb1
  have hb2 := block_set (t1.obj h.txt (by simp; exact Ne.symm h.ne4)) i (.string ⟨s.toArray⟩)
  rw [tc_set] at hb2
  have e1 : dc bi bc bd (r.keep i s) = dc bi bc bd r := by
    unfold dc Rv.keep
    simp only [List.length_set]
  exact R.keep (w := u.setCell ⟨bc, i, none⟩ (.string ⟨s.toArray⟩)) ⟨by rw [e1]; exact t3.obj h.block (by simp; exact ⟨h.ne1, h.ne2⟩), t2.obj hb1 (by simp; exact h.ne4), hb2, t3.obj h.cnt (by simp; exact ⟨Ne.symm h.ne5, Ne.symm h.ne6⟩), h.pos, h.ne1, h.ne2, h.ne3, h.ne4, h.ne5, h.ne6, h.good.keep hi hs⟩ kv
end
end Go.Proofs.YtifcibmpeolmdaaDoor
