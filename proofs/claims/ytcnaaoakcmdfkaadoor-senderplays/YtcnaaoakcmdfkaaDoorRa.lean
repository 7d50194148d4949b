/- Proved: the document's sender in memory: its cells, what of them is read, what a store makes of them. No condition. -/
import Derived.Test.YtcnaaoakcmdfkaaDoorWw
namespace Go.Proofs.YtcnaaoakcmdfkaaDoor
open Go.RowKit

def nc (l : List Nat) : Array Value := (l.map fun z : Nat => Value.int .i64 z).toArray
theorem nc_get (l : List Nat) (i : Nat) (x : Nat) (h : l[i]? = some x) : (nc l)[i]? = some (.int .i64 x) := by
  unfold nc
  rw [List.getElem?_toArray, List.getElem?_map, h]; rfl
theorem nc_set (l : List Nat) (i x : Nat) : (nc l).setIfInBounds i (.int .i64 x) = nc (l.set i x) := by
  unfold nc
  apply Array.ext'
  rw [Array.toList_setIfInBounds, List.map_set]
def trL (s : Sd) : List Nat := s.ch.map Ck.tries
def laL (s : Sd) : List Nat := s.ch.map Ck.last
def daL (s : Sd) : List (List UInt8) := s.ch.map Ck.data
theorem trL_get (s : Sd) (i : Nat) (h : i < s.ch.length) : (trL s)[i]? = some (s.at i).tries := by unfold trL; rw [List.getElem?_map, at_in h]; rfl
theorem laL_get (s : Sd) (i : Nat) (h : i < s.ch.length) : (laL s)[i]? = some (s.at i).last := by unfold laL; rw [List.getElem?_map, at_in h]; rfl
theorem daL_get (s : Sd) (i : Nat) (h : i < s.ch.length) : (daL s)[i]? = some (s.at i).data := by unfold daL; rw [List.getElem?_map, at_in h]; rfl
theorem daL_len (s : Sd) : (daL s).length = s.ch.length := by simp [daL]
theorem trL_put (s : Sd) (i : Nat) : trL (s.put i) = (trL s).set i ((s.at i).tries + 1) := by unfold trL Sd.put; rw [List.map_set]
theorem laL_put (s : Sd) (i : Nat) : laL (s.put i) = (laL s).set i s.now := by unfold laL Sd.put; rw [List.map_set]
theorem daL_put (s : Sd) (i : Nat) (h : i < s.ch.length) : daL (s.put i) = daL s := by
  unfold daL Sd.put
  rw [List.map_set]
  refine List.ext_getElem? fun j => ?_
  rw [List.getElem?_set]
  split
  · rename_i e
    subst e
    have := daL_get s i h
    unfold daL at this
    rw [this, if_pos (by simpa using h)]
  · rfl
def rc (bt ba : Nat) (a : Option Addr) (cap : Nat) (iv : Value) (s : Sd) : Array Value :=
  #[.int .i64 s.ses, .int .i64 s.ep, .slice a s.ch.length cap, iv, .slice (some ⟨bt, 0, none⟩) s.ch.length s.ch.length, .slice (some ⟨ba, 0, none⟩) s.ch.length s.ch.length, .int .i64 (s.now : Nat), .bool s.lost]

/-- The document's sender lies in block g, its tries in bt, its ticks in ba; iv: which are there. -/
structure R (w : World) (g bt ba : Nat) (a : Option Addr) (cap : Nat) (iv : Value) (s : Sd) : Prop where
  block : w.heap[g]? = some (.cells (rc bt ba a cap iv s) 51 (0, 0))
  tr : w.heap[bt]? = some (.cells (nc (trL s)) 3 (0, 0))
  la : w.heap[ba]? = some (.cells (nc (laL s)) 3 (0, 0))
  inn : CelO w iv s.l
  txt : TexS w (.slice a s.ch.length cap) (daL s)
  farI : ∀ x, iv.ownBlock = some x → x ≠ g ∧ x ≠ bt ∧ x ≠ ba
  farC : ∀ x, (Value.slice a s.ch.length cap).ownBlock = some x → x ≠ g ∧ x ≠ bt ∧ x ≠ ba
  ne1 : g ≠ bt
  ne2 : g ≠ ba
  ne3 : bt ≠ ba
  good : Good s
section
variable {w w' : World} {g bt ba cap : Nat} {a : Option Addr} {iv : Value} {s : Sd}
theorem R.keep (h : R w g bt ba a cap iv s) (k : Keep w w') : R w' g bt ba a cap iv s := ⟨k.obj h.block, k.obj h.tr, k.obj h.la, h.inn.keep k, h.txt.keep k, h.farI, h.farC, h.ne1, h.ne2, h.ne3, h.good⟩
theorem R.turn {K : List Nat} (h : R w g bt ba a cap iv s) (k : Turn K w w') (h1 : g ∉ K) (h2 : bt ∉ K) (h3 : ba ∉ K) (h4 : ∀ x, iv.ownBlock = some x → x ∉ K) (h5 : ∀ x, (Value.slice a s.ch.length cap).ownBlock = some x → x ∉ K) : R w' g bt ba a cap iv s :=
  ⟨k.obj h.block h1, k.obj h.tr h2, k.obj h.la h3, k.cells h.inn h4, k.cells h.txt h5, h.farI, h.farC, h.ne1, h.ne2, h.ne3, h.good⟩
theorem R.low {B : Nat} (h : R w g bt ba a cap iv s) (hs : w.heap.size ≤ w'.heap.size) (e : ∀ k, k < B → w'.heap[k]? = w.heap[k]?) (h1 : g < B) (h2 : bt < B) (h3 : ba < B) (h4 : ∀ x, iv.ownBlock = some x → x < B) (h5 : ∀ x, (Value.slice a s.ch.length cap).ownBlock = some x → x < B) : R w' g bt ba a cap iv s :=
  ⟨(e g h1).trans h.block, (e bt h2).trans h.tr, (e ba h3).trans h.la, h.inn.block hs fun x hx => e x (h4 x hx), h.txt.block hs fun x hx => e x (h5 x hx), h.farI, h.farC, h.ne1, h.ne2, h.ne3, h.good⟩
theorem R.ses (h : R w g bt ba a cap iv s) : w.cell? ⟨g, 0, none⟩ = some (.int .i64 s.ses) := cell_obj h.block rfl
theorem R.ep (h : R w g bt ba a cap iv s) : w.cell? ⟨g, 1, none⟩ = some (.int .i64 s.ep) := cell_obj h.block rfl
theorem R.c (h : R w g bt ba a cap iv s) : w.cell? ⟨g, 2, none⟩ = some (.slice a s.ch.length cap) := cell_obj h.block rfl
theorem R.i (h : R w g bt ba a cap iv s) : w.cell? ⟨g, 3, none⟩ = some iv := cell_obj h.block rfl
theorem R.t (h : R w g bt ba a cap iv s) : w.cell? ⟨g, 4, none⟩ = some (.slice (some ⟨bt, 0, none⟩) s.ch.length s.ch.length) := cell_obj h.block rfl
theorem R.ats (h : R w g bt ba a cap iv s) : w.cell? ⟨g, 5, none⟩ = some (.slice (some ⟨ba, 0, none⟩) s.ch.length s.ch.length) := cell_obj h.block rfl
theorem R.now (h : R w g bt ba a cap iv s) : w.cell? ⟨g, 6, none⟩ = some (.int .i64 (s.now : Nat)) := cell_obj h.block rfl
theorem R.lost (h : R w g bt ba a cap iv s) : w.cell? ⟨g, 7, none⟩ = some (.bool s.lost) := cell_obj h.block rfl
theorem R.free (h : R w g bt ba a cap iv s) (i : Nat) : w.frozen? ⟨g, i, none⟩ = false := by simp [World.frozen?, h.block]
theorem R.freet (h : R w g bt ba a cap iv s) (i : Nat) : w.frozen? ⟨bt, i, none⟩ = false := by simp [World.frozen?, h.tr]
theorem R.freea (h : R w g bt ba a cap iv s) (i : Nat) : w.frozen? ⟨ba, i, none⟩ = false := by simp [World.frozen?, h.la]
theorem R.tries (h : R w g bt ba a cap iv s) (i : Nat) (hi : i < s.ch.length) : w.cell? ⟨bt, i, none⟩ = some (.int .i64 ((s.at i).tries : Nat)) := cell_obj h.tr (nc_get _ _ _ (trL_get s i hi))
theorem R.last (h : R w g bt ba a cap iv s) (i : Nat) (hi : i < s.ch.length) : w.cell? ⟨ba, i, none⟩ = some (.int .i64 ((s.at i).last : Nat)) := cell_obj h.la (nc_get _ _ _ (laL_get s i hi))
theorem R.lt (h : R w g bt ba a cap iv s) : g < w.heap.size := block_lt h.block
theorem R.ltt (h : R w g bt ba a cap iv s) : bt < w.heap.size := block_lt h.tr
theorem R.lta (h : R w g bt ba a cap iv s) : ba < w.heap.size := block_lt h.la
theorem R.lti (h : R w g bt ba a cap iv s) : ∀ x, iv.ownBlock = some x → x < w.heap.size := fun _ hx => h.inn.lt hx
theorem R.ltx (h : R w g bt ba a cap iv s) : ∀ x, (Value.slice a s.ch.length cap).ownBlock = some x → x < w.heap.size := fun _ hx => h.txt.lt hx
/-- One is there? The slice's block and place. -/
theorem R.there (h : R w g bt ba a cap iv s) : ∃ gi oi icap, iv = .slice (some ⟨gi, oi, none⟩) s.ch.length icap ∧ ∀ i, i < s.ch.length → w.cell? ⟨gi, oi + i, none⟩ = some (.bool (s.l.getD i false)) := by
  have hl := h.good.len
  have hp := h.good.pos
  obtain ⟨gi, oi, icap, hv, _, _, _⟩ := h.inn.ptr 0 (by omega)
  refine ⟨gi, oi, icap, by rw [hv, hl], fun i hi => ?_⟩
  have hc := h.inn
  rw [hv] at hc
  exact Cells.bool hc i (by omega)
theorem R.text (h : R w g bt ba a cap iv s) : ∃ gc oc, a = some ⟨gc, oc, none⟩ ∧ ∀ i, i < s.ch.length → w.cell? ⟨gc, oc + i, none⟩ = some (.string ⟨(s.at i).data.toArray⟩) := by
  have hp := h.good.pos
  have hd := daL_len s
  obtain ⟨gc, oc, c, hv, _, _, _⟩ := h.txt.ptr 0 (by omega)
  injection hv with e1 e2 e3
  refine ⟨gc, oc, e1, fun i hi => ?_⟩
  have hc := h.txt
  rw [e1, ← hd] at hc
  exact TexS.text hc i _ (daL_get s i hi)

/-! ### Stores -/
theorem R.setOn (h : R w g bt ba a cap iv s) : R (w.setCell ⟨g, 6, none⟩ (.int .i64 (s.now + 1 : Nat))) g bt ba a cap iv s.on :=
  have k : Turn [g] w (w.setCell ⟨g, 6, none⟩ (.int .i64 (s.now + 1 : Nat))) := Turn.setCell w g 6 _ (by simp)
  ⟨block_set h.block 6 _, k.obj h.tr (by simp; exact Ne.symm h.ne1), k.obj h.la (by simp; exact Ne.symm h.ne2), k.cells h.inn (fun x hx => by simp; exact (h.farI x hx).1), k.cells h.txt (fun x hx => by simp; exact (h.farC x hx).1), h.farI, h.farC, h.ne1, h.ne2, h.ne3, h.good.on⟩
theorem R.setGone (h : R w g bt ba a cap iv s) : R (w.setCell ⟨g, 7, none⟩ (.bool true)) g bt ba a cap iv s.gone :=
  have k : Turn [g] w (w.setCell ⟨g, 7, none⟩ (.bool true)) := Turn.setCell w g 7 _ (by simp)
  ⟨block_set h.block 7 _, k.obj h.tr (by simp; exact Ne.symm h.ne1), k.obj h.la (by simp; exact Ne.symm h.ne2), k.cells h.inn (fun x hx => by simp; exact (h.farI x hx).1), k.cells h.txt (fun x hx => by simp; exact (h.farC x hx).1), h.farI, h.farC, h.ne1, h.ne2, h.ne3, h.good.gone⟩
theorem R.setIn (h : R w g bt ba a cap iv s) {iv' : Value} {l : List Bool} (hc : CelO w iv' l) (hl : l.length = s.l.length) (hf : ∀ x, iv'.ownBlock = some x → x ≠ g ∧ x ≠ bt ∧ x ≠ ba) : R (w.setCell ⟨g, 3, none⟩ iv') g bt ba a cap iv' { s with l := l } :=
  have k : Turn [g] w (w.setCell ⟨g, 3, none⟩ iv') := Turn.setCell w g 3 _ (by simp)
  ⟨block_set h.block 3 _, k.obj h.tr (by simp; exact Ne.symm h.ne1), k.obj h.la (by simp; exact Ne.symm h.ne2), k.cells hc (fun x hx => by simp; exact (hf x hx).1), k.cells h.txt (fun x hx => by simp; exact (h.farC x hx).1), hf, h.farC, h.ne1, h.ne2, h.ne3, ⟨by show l.length = _; rw [hl]; exact h.good.len, h.good.pos, h.good.few, h.good.tries, h.good.last⟩⟩
theorem R.setPut (h : R w g bt ba a cap iv s) (i : Nat) (hi : i < s.ch.length) (ho : s.over i = false) :
    R ((w.setCell ⟨bt, i, none⟩ (.int .i64 ((s.at i).tries + 1 : Nat))).setCell ⟨ba, i, none⟩ (.int .i64 (s.now : Nat))) g bt ba a cap iv (s.put i) := by
  have k1 : Turn [bt, ba] w (w.setCell ⟨bt, i, none⟩ (.int .i64 ((s.at i).tries + 1 : Nat))) := Turn.setCell w bt _ _ (by simp)
  have k2 : Turn [bt, ba] (w.setCell ⟨bt, i, none⟩ (.int .i64 ((s.at i).tries + 1 : Nat))) ((w.setCell ⟨bt, i, none⟩ (.int .i64 ((s.at i).tries + 1 : Nat))).setCell ⟨ba, i, none⟩ (.int .i64 (s.now : Nat))) := Turn.setCell _ ba _ _ (by simp)
  have k := k1.trans k2
  have hg := h.good.puts [i] (by simp) (by simpa using hi) (by simpa using ho)
  have hlen := (put_ses s i).2.2.2.2.2
  have e1 : rc bt ba a cap iv (s.put i) = rc bt ba a cap iv s := by
    unfold rc
    rw [hlen]
    rfl
  have b1 := block_set h.tr i (.int .i64 ((s.at i).tries + 1 : Nat))
  rw [nc_set, ← trL_put] at b1
  have t2 : Turn [ba] (w.setCell ⟨bt, i, none⟩ (.int .i64 ((s.at i).tries + 1 : Nat))) ((w.setCell ⟨bt, i, none⟩ (.int .i64 ((s.at i).tries + 1 : Nat))).setCell ⟨ba, i, none⟩ (.int .i64 (s.now : Nat))) := Turn.setCell _ ba _ _ (by simp)
  have t1 : Turn [bt] w (w.setCell ⟨bt, i, none⟩ (.int .i64 ((s.at i).tries + 1 : Nat))) := Turn.setCell w bt _ _ (by simp)
  have b2 := block_set (t1.obj h.la (by simp; exact Ne.symm h.ne3)) i (.int .i64 (s.now : Nat))
  rw [nc_set, ← laL_put] at b2
  refine ⟨by rw [e1]; exact k.obj h.block (by simp; exact ⟨h.ne1, h.ne2⟩), t2.obj b1 (by simp; exact h.ne3), b2, k.cells h.inn (fun x hx => by simp; exact (h.farI x hx).2), ?_, h.farI, by rw [hlen]; exact h.farC, h.ne1, h.ne2, h.ne3, hg⟩
  rw [hlen, daL_put s i hi]
  exact k.cells h.txt (fun x hx => by simp; exact (h.farC x hx).2)
end
end Go.Proofs.YtcnaaoakcmdfkaaDoor
