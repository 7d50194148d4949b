/- Proved: a sender in memory: its cells, what of them is read, what a store makes of them; which blocks a call may have turned. No condition. -/
import Derived.Test.YtcnaaoakcmdfkaaDoorFx
namespace Go.Proofs.YtcnaaoakcmdfkaaDoor
open Go.RowKit

/-- Nothing but some blocks, of what was there, may have turned. -/
structure Turn (K : List Nat) (w w' : World) : Prop where
  os : w'.os = w.os
  tape : w'.tape = w.tape
  output : w'.output = w.output
  size : w.heap.size ≤ w'.heap.size
  block : ∀ k, k < w.heap.size → k ∉ K → w'.heap[k]? = w.heap[k]?
section
variable {K K' : List Nat} {u v w : World}
theorem Turn.refl (K : List Nat) (w : World) : Turn K w w := ⟨rfl, rfl, rfl, Nat.le_refl _, fun _ _ _ => rfl⟩
theorem Turn.trans (h : Turn K u v) (k : Turn K v w) : Turn K u w :=
  ⟨k.os.trans h.os, k.tape.trans h.tape, k.output.trans h.output, Nat.le_trans h.size k.size, fun i hi hb => (k.block i (Nat.lt_of_lt_of_le hi h.size) hb).trans (h.block i hi hb)⟩
theorem Turn.mono (h : Turn K u v) (hs : ∀ k, k ∈ K → k ∈ K') : Turn K' u v := ⟨h.os, h.tape, h.output, h.size, fun i hi hb => h.block i hi (fun hk => hb (hs i hk))⟩
theorem Turn.keep (K : List Nat) (k : Keep u v) : Turn K u v := ⟨k.1, k.2, k.3, k.4, fun i hi _ => k.5 i hi⟩
theorem Turn.only {b : Nat} (k : Only b u v) (hb : b ∈ K) : Turn K u v := ⟨k.os, k.tape, k.output, k.size, fun i hi hk => k.block i hi (fun e => hk (by rw [e]; exact hb))⟩
theorem Turn.drew (h : Turn K u v) : Turn K u v.drew := ⟨h.os, h.tape, h.output, h.size, h.block⟩
theorem Turn.thenKeep (h : Turn K u v) (k : Keep v w) : Turn K u w := h.trans (Turn.keep K k)
theorem Turn.ofKeep (h : Keep u v) (k : Turn K v w) : Turn K u w := (Turn.keep K h).trans k
/-- What is done to blocks that weren't there. -/
theorem Turn.made (h : Keep u v) (k : Turn K v w) (hb : ∀ b ∈ K, u.heap.size ≤ b) : Keep u w :=
  ⟨k.os.trans h.1, k.tape.trans h.2, k.output.trans h.3, Nat.le_trans h.size k.size, fun i hi => (k.block i (Nat.lt_of_lt_of_le hi h.size) (fun hk => by have := hb i hk; omega)).trans (h.block i hi)⟩
theorem Turn.obj {g : Nat} (k : Turn K u v) {o : Obj} (h : u.heap[g]? = some o) (hg : g ∉ K) : v.heap[g]? = some o := (k.block g (block_lt h) hg).trans h
theorem Turn.cells {α : Type} {enc : α → List Value} {x : Value} {l : List α} (k : Turn K u v) (h : Cells enc u x l) (hb : ∀ g, x.ownBlock = some g → g ∉ K) : Cells enc v x l :=
  h.block k.size fun g hg => k.block g (h.lt hg) (hb g hg)
theorem M.turn {b : Nat} {l : List Bool} (h : M u b l) (k : Turn K u v) (hb : b ∉ K) (h0 : 0 ∉ K) : M v b l :=
  ⟨k.obj h.block hb, h.pos, h.few, h.tab.of_block (k.block 0 h.tab.pos h0)⟩
end

/-! ### Cells -/
def ke (c : Ck) : List Value := [.string ⟨c.data.toArray⟩, .int .i64 (c.tries : Nat), .int .i64 (c.last : Nat)]
theorem ke_len (c : Ck) : (ke c).length = 3 := rfl
theorem ke_one (c : Ck) : ∀ v ∈ ke c, v.oneCell' = true := by
  intro v hv
  simp only [ke, List.mem_cons, List.not_mem_nil, or_false] at hv
  rcases hv with rfl | rfl | rfl <;> rfl
def kc (L : List Ck) : Array Value := (flat ke L).toArray
theorem kc_size (L : List Ck) : (kc L).size = L.length * 3 := by simp [kc, flat_len ke ke_len]
theorem flat_set {α : Type} {enc : α → List Value} {k : Nat} (hk : ∀ x, (enc x).length = k) (l : List α) (i : Nat) (x : α) (hi : i < l.length) : flat enc (l.set i x) = (flat enc l).take (i * k) ++ enc x ++ (flat enc l).drop ((i + 1) * k) := by
  rw [List.set_eq_take_append_cons_drop, if_pos hi, flat_append, flat_cons, flat_take enc hk, flat_drop enc hk, List.append_assoc]
theorem set_in (A B C : List Value) (j : Nat) (v : Value) (h : j < B.length) : (A ++ B ++ C).set (A.length + j) v = A ++ B.set j v ++ C := by
  rw [List.append_assoc, List.set_append_right _ _ (by omega), Nat.add_sub_cancel_left, List.set_append_left _ _ h, List.append_assoc]
theorem flat_put {α : Type} {enc : α → List Value} {k : Nat} (hk : ∀ x, (enc x).length = k) (l : List α) (i j : Nat) (x y : α) (v : Value) (hx : l[i]? = some x) (hj : j < k) (hy : (enc x).set j v = enc y) : (flat enc l).set (i * k + j) v = flat enc (l.set i y) := by
  obtain ⟨hi, he⟩ := List.getElem?_eq_some_iff.1 hx
  have e : flat enc l = (flat enc l).take (i * k) ++ enc x ++ (flat enc l).drop ((i + 1) * k) := by
    have := flat_set hk l i x hi
    rw [← he, List.set_getElem_self] at this
    rw [← he]
    exact this
  have hl : ((flat enc l).take (i * k)).length = i * k := by
    rw [List.length_take, flat_len enc hk]
    exact Nat.min_eq_left (Nat.mul_le_mul_right k (Nat.le_of_lt hi))
  rw [flat_set hk l i y hi, ← hy]
  conv => lhs; rw [e]
  have := set_in ((flat enc l).take (i * k)) (enc x) ((flat enc l).drop ((i + 1) * k)) j v (by rw [hk]; exact hj)
  rw [hl] at this
  exact this
theorem kc_put (L : List Ck) (i j : Nat) (x y : Ck) (v : Value) (hx : L[i]? = some x) (hj : j < 3) (hy : (ke x).set j v = ke y) : (kc L).setIfInBounds (i * 3 + j) v = kc (L.set i y) := by
  unfold kc
  apply Array.ext'
  rw [Array.toList_setIfInBounds]
  exact flat_put ke_len L i j x y v hx hj hy
def sc (bm bc : Nat) (s : Sd) : Array Value := #[.pointer (some ⟨bm, 0, none⟩), .int .i64 s.ses, .int .i64 s.ep, .slice (some ⟨bc, 0, none⟩) s.ch.length s.ch.length, .int .i64 (s.now : Nat), .bool s.lost]

/-- A sender lies in block b, its map in bm, its chunks in bc. -/
structure S (w : World) (b bm bc : Nat) (s : Sd) : Prop where
  block : w.heap[b]? = some (.cells (sc bm bc s) 69 (0, 0))
  chunks : w.heap[bc]? = some (.cells (kc s.ch) 65 (0, 0))
  map : M w bm s.l
  pos : 0 < b
  posc : 0 < bc
  ne1 : b ≠ bm
  ne2 : b ≠ bc
  ne3 : bm ≠ bc
  good : Good s
section
variable {w w' : World} {b bm bc : Nat} {s : Sd}
theorem S.keep (h : S w b bm bc s) (k : Keep w w') : S w' b bm bc s := ⟨k.obj h.block, k.obj h.chunks, h.map.keep k, h.pos, h.posc, h.ne1, h.ne2, h.ne3, h.good⟩
theorem S.turn {K : List Nat} (h : S w b bm bc s) (k : Turn K w w') (h0 : 0 ∉ K) (h1 : b ∉ K) (h2 : bm ∉ K) (h3 : bc ∉ K) : S w' b bm bc s :=
  ⟨k.obj h.block h1, k.obj h.chunks h3, h.map.turn k h2 h0, h.pos, h.posc, h.ne1, h.ne2, h.ne3, h.good⟩
theorem S.ptr (h : S w b bm bc s) : w.cell? ⟨b, 0, none⟩ = some (.pointer (some ⟨bm, 0, none⟩)) := cell_obj h.block rfl
theorem S.ses (h : S w b bm bc s) : w.cell? ⟨b, 1, none⟩ = some (.int .i64 s.ses) := cell_obj h.block rfl
theorem S.ep (h : S w b bm bc s) : w.cell? ⟨b, 2, none⟩ = some (.int .i64 s.ep) := cell_obj h.block rfl
theorem S.list (h : S w b bm bc s) : w.cell? ⟨b, 3, none⟩ = some (.slice (some ⟨bc, 0, none⟩) s.ch.length s.ch.length) := cell_obj h.block rfl
theorem S.now (h : S w b bm bc s) : w.cell? ⟨b, 4, none⟩ = some (.int .i64 (s.now : Nat)) := cell_obj h.block rfl
theorem S.lost (h : S w b bm bc s) : w.cell? ⟨b, 5, none⟩ = some (.bool s.lost) := cell_obj h.block rfl
theorem S.free (h : S w b bm bc s) (i : Nat) : w.frozen? ⟨b, i, none⟩ = false := by simp [World.frozen?, h.block]
theorem S.freec (h : S w b bm bc s) (i : Nat) : w.frozen? ⟨bc, i, none⟩ = false := by simp [World.frozen?, h.chunks]
theorem S.lt (h : S w b bm bc s) : b < w.heap.size := block_lt h.block
theorem S.ltc (h : S w b bm bc s) : bc < w.heap.size := block_lt h.chunks
theorem S.chunk (h : S w b bm bc s) (i : Nat) (hi : i < s.ch.length) (j : Nat) (hj : j < 3) (v : Value) (hv : (ke (s.at i))[j]? = some v) : w.cell? ⟨bc, i * 3 + j, none⟩ = some v := by
  refine cell_obj h.chunks ?_
  unfold kc
  rw [List.getElem?_toArray, flat_get ke ke_len s.ch i (s.at i) (at_in hi) j hj, hv]
theorem S.data (h : S w b bm bc s) (i : Nat) (hi : i < s.ch.length) : w.cell? ⟨bc, i * 3, none⟩ = some (.string ⟨(s.at i).data.toArray⟩) := h.chunk i hi 0 (by omega) _ rfl
theorem S.tries (h : S w b bm bc s) (i : Nat) (hi : i < s.ch.length) : w.cell? ⟨bc, i * 3 + 1, none⟩ = some (.int .i64 ((s.at i).tries : Nat)) := h.chunk i hi 1 (by omega) _ rfl
theorem S.last (h : S w b bm bc s) (i : Nat) (hi : i < s.ch.length) : w.cell? ⟨bc, i * 3 + 2, none⟩ = some (.int .i64 ((s.at i).last : Nat)) := h.chunk i hi 2 (by omega) _ rfl
theorem S.whole (h : S w b bm bc s) (i n : Nat) (hi : i < s.ch.length) (hn : n = 3) : (loadCellsFrom ⟨bc, i * 3, none⟩ 0 n #[]).run Tryd.prog w = .ok (ke (s.at i)).toArray w :=
  load_part (ke (s.at i)) (by rw [hn]; rfl) h.chunks fun j v hv => by
    have hj : j < 3 := by have := (List.getElem?_eq_some_iff.1 hv).1; simpa [ke_len] using this
    unfold kc
    rw [List.getElem?_toArray, flat_get ke ke_len s.ch i (s.at i) (at_in hi) j hj, hv]

/-! ### Stores -/
theorem Turn.setCell {K : List Nat} (w : World) (b o : Nat) (v : Value) (hb : b ∈ K) : Turn K w (w.setCell ⟨b, o, none⟩ v) := Turn.only (Only.setCell b o w v) hb
theorem S.setOn (h : S w b bm bc s) : S (w.setCell ⟨b, 4, none⟩ (.int .i64 (s.now + 1 : Nat))) b bm bc s.on :=
  have k : Turn [b] w (w.setCell ⟨b, 4, none⟩ (.int .i64 (s.now + 1 : Nat))) := Turn.setCell w b 4 _ (by simp)
  ⟨block_set h.block 4 _, k.obj h.chunks (by simp; exact Ne.symm h.ne2), h.map.turn k (by simp; exact Ne.symm h.ne1) (by simp; exact Nat.ne_of_lt h.pos), h.pos, h.posc, h.ne1, h.ne2, h.ne3, h.good.on⟩
theorem S.setGone (h : S w b bm bc s) : S (w.setCell ⟨b, 5, none⟩ (.bool true)) b bm bc s.gone :=
  have k : Turn [b] w (w.setCell ⟨b, 5, none⟩ (.bool true)) := Turn.setCell w b 5 _ (by simp)
  ⟨block_set h.block 5 _, k.obj h.chunks (by simp; exact Ne.symm h.ne2), h.map.turn k (by simp; exact Ne.symm h.ne1) (by simp; exact Nat.ne_of_lt h.pos), h.pos, h.posc, h.ne1, h.ne2, h.ne3, h.good.gone⟩
/-- A chunk's tries and tick are stored. -/
theorem S.setPut (h : S w b bm bc s) (i : Nat) (hi : i < s.ch.length) (ho : s.over i = false) :
    S ((w.setCell ⟨bc, i * 3 + 1, none⟩ (.int .i64 ((s.at i).tries + 1 : Nat))).setCell ⟨bc, i * 3 + 2, none⟩ (.int .i64 (s.now : Nat))) b bm bc (s.put i) := by
  have k : Turn [bc] w ((w.setCell ⟨bc, i * 3 + 1, none⟩ (.int .i64 ((s.at i).tries + 1 : Nat))).setCell ⟨bc, i * 3 + 2, none⟩ (.int .i64 (s.now : Nat))) := (Turn.setCell w bc _ _ (by simp)).trans (Turn.setCell _ bc _ _ (by simp))
  have hg := h.good.puts [i] (by simp) (by simpa using hi) (by simpa using ho)
  have e1 : sc bm bc (s.put i) = sc bm bc s := by
    unfold sc
    rw [(put_ses s i).2.2.2.2.2]
    rfl
  refine ⟨by rw [e1]; exact k.obj h.block (by simp; exact h.ne2), ?_, h.map.turn k (by simp; exact h.ne3) (by simp; exact Nat.ne_of_lt h.posc), h.pos, h.posc, h.ne1, h.ne2, h.ne3, hg⟩
  have h1 := block_set h.chunks (i * 3 + 1) (.int .i64 ((s.at i).tries + 1 : Nat))
  rw [kc_put s.ch i 1 (s.at i) ⟨(s.at i).data, (s.at i).tries + 1, (s.at i).last⟩ _ (at_in hi) (by omega) rfl] at h1
  have h2 := block_set h1 (i * 3 + 2) (.int .i64 (s.now : Nat))
  rw [kc_put _ i 2 ⟨(s.at i).data, (s.at i).tries + 1, (s.at i).last⟩ ⟨(s.at i).data, (s.at i).tries + 1, s.now⟩ _ (by rw [List.getElem?_set, if_pos rfl, if_pos hi]) (by omega) rfl, List.set_set] at h2
  exact h2
end
end Go.Proofs.YtcnaaoakcmdfkaaDoor
