/- Proved: what the document's New of a sender answers, and what it does to memory. Condition: what it is made of may be; the list of texts lies in memory. -/
import Derived.Test.YtcnaaoakcmdfkaaDoorRb
import Derived.BigRegion
namespace Go.Proofs.YtcnaaoakcmdfkaaDoor
open Go.RowKit

def bc8 (l : List Bool) : Array Value := (l.map Value.bool).toArray
theorem mk_bools (n : Nat) (hn : n ≤ 256) (w : World) : (Instr.makeSlice 48 (.int .i64 n) (.int .i64 n)).run Tryd.prog w = .ok (.slice (some ⟨w.heap.size, 0, none⟩) n n) (w.alloc (.cells (bc8 (List.replicate n false)) 4)) := by
  obtain ⟨i0, hi, hz0, hz1, hz2⟩ := info_parts info4
  have h := run_make (P := Tryd.prog) w 48 4 i0 (.bool false) Tryd.underlying48 hi hz0 .i64 .i64 n n (by omega) (Int.le_refl _) (by rw [hz2]; omega) (by omega)
  rw [h, hz1, Int.toNat_natCast]
  have e : madeCells (Value.bool false).cells (n * 1) = bc8 (List.replicate n false) := by
    apply Array.ext'
    rw [Nat.mul_one, show (Value.bool false).cells = #[Value.bool false] from rfl, toList_madeCells_one]
    simp [bc8]
  rw [e]
theorem mk_ints (n : Nat) (hn : n ≤ 256) (w : World) : (Instr.makeSlice 49 (.int .i64 n) (.int .i64 n)).run Tryd.prog w = .ok (.slice (some ⟨w.heap.size, 0, none⟩) n n) (w.alloc (.cells (nc (List.replicate n 0)) 3)) := by
  obtain ⟨i0, hi, hz0, hz1, hz2⟩ := info_parts info3
  have h := run_make (P := Tryd.prog) w 49 3 i0 (.int .i64 0) Tryd.underlying49 hi hz0 .i64 .i64 n n (by omega) (Int.le_refl _) (by rw [hz2]; omega) (by omega)
  rw [h, hz1, Int.toNat_natCast]
  have e : madeCells (Value.int .i64 0).cells (n * 1) = nc (List.replicate n 0) := by
    apply Array.ext'
    rw [Nat.mul_one, show (Value.int .i64 0).cells = #[Value.int .i64 0] from rfl, toList_madeCells_one]
    simp [nc]
  rw [e]
def z8 : Array Value := #[.int .i64 0, .int .i64 0, .slice none 0 0, .slice none 0 0, .slice none 0 0, .slice none 0 0, .int .i64 0, .bool false]
theorem info51 : (Tryd.prog.info? 51).map (fun i => (i.zero, i.size)) = some (some (.agg z8), 8) := by kernel_rfl
theorem under51 : (Tryd.prog.underlying 51).bind (fun d => match d with | .struct fs => fs.toList.mapM (fun f => (Tryd.prog.info? f.type).map fun i => (f.offset, i.size)) | _ => none) = some [(0, 1), (1, 1), (2, 1), (3, 1), (4, 1), (5, 1), (6, 1), (7, 1)] := by kernel_rfl
theorem build_ref (x y : Int) (a : Option Addr) (n cap : Nat) (p q r : Nat) (w : World) : (Instr.build 51 #[(0, .int .i64 x), (1, .int .i64 y), (2, .slice a n cap), (3, .slice (some ⟨p, 0, none⟩) n n), (4, .slice (some ⟨q, 0, none⟩) n n), (5, .slice (some ⟨r, 0, none⟩) n n)]).run Tryd.prog w =
    .ok (.agg #[.int .i64 x, .int .i64 y, .slice a n cap, .slice (some ⟨p, 0, none⟩) n n, .slice (some ⟨q, 0, none⟩) n n, .slice (some ⟨r, 0, none⟩) n n, .int .i64 0, .bool false]) w := by
  refine run_build w 51 _ _ ?_
  rw [built_of info51 under51]
  simp only [Value.cells]
  rw [fill_cell _ _ 0 _ _ rfl rfl (by decide), fill_cell _ _ 1 _ _ rfl rfl (by simp [z8]), fill_cell _ _ 2 _ _ rfl rfl (by simp [z8]), fill_cell _ _ 3 _ _ rfl rfl (by simp [z8]), fill_cell _ _ 4 _ _ rfl rfl (by simp [z8]), fill_cell _ _ 5 _ _ rfl rfl (by simp [z8]), Instr.fill]
  simp [z8]
theorem cel_bools (w : World) (g n : Nat) (h : w.heap[g]? = some (.cells (bc8 (List.replicate n false)) 4 (0, 0))) (hn : n ≤ 256) : CelO w (.slice (some ⟨g, 0, none⟩) n n) (List.replicate n false) := by
  refine .inr ⟨g, 0, n, by rw [List.length_replicate], by rw [List.length_replicate]; exact Nat.le_refl _, by unfold maxLen; omega, block_lt h, fun j u hj => ?_⟩
  rw [flat_be] at hj
  refine cell_obj h ?_
  unfold bc8
  rw [Nat.zero_add, List.getElem?_toArray]
  exact hj
/-- The three lists lie in p, q, r, the sender behind them. -/
theorem R.made {w w3 : World} {x y : Int} {a : Option Addr} {cap p q r : Nat} {L : List (List UInt8)} (hL : L.length ≤ 256) (h1 : 1 ≤ L.length) (k : Keep w w3) (hC : TexS w (.slice a L.length cap) L)
    (hp : w3.heap[p]? = some (.cells (bc8 (List.replicate L.length false)) 4 (0, 0))) (hq : w3.heap[q]? = some (.cells (nc (List.replicate L.length 0)) 3 (0, 0))) (hr : w3.heap[r]? = some (.cells (nc (List.replicate L.length 0)) 3 (0, 0)))
    (_kp : w.heap.size ≤ p) (kq : w.heap.size ≤ q) (kr : w.heap.size ≤ r) (npq : p ≠ q) (npr : p ≠ r) (nqr : q ≠ r) :
    R (w3.alloc (.cells #[.int .i64 x, .int .i64 y, .slice a L.length cap, .slice (some ⟨p, 0, none⟩) L.length L.length, .slice (some ⟨q, 0, none⟩) L.length L.length, .slice (some ⟨r, 0, none⟩) L.length L.length, .int .i64 0, .bool false] 51)) w3.heap.size q r a cap (.slice (some ⟨p, 0, none⟩) L.length L.length) (newS x y L) := by
  have k4 : Keep w3 (w3.alloc (.cells #[.int .i64 x, .int .i64 y, .slice a L.length cap, .slice (some ⟨p, 0, none⟩) L.length L.length, .slice (some ⟨q, 0, none⟩) L.length L.length, .slice (some ⟨r, 0, none⟩) L.length L.length, .int .i64 0, .bool false] 51)) := (Keep.refl w3).alloc _
  have hch : (newS x y L).ch.length = L.length := by simp [newS]
  have lp := block_lt hp
  have lq := block_lt hq
  have lr := block_lt hr
  have ks := k.size
  have et : trL (newS x y L) = List.replicate L.length 0 := by
    unfold trL newS
    refine List.ext_getElem? fun i => ?_
    simp only [List.getElem?_map, List.getElem?_replicate]
    split
    · rename_i hi; rw [List.getElem?_eq_getElem hi]; rfl
    · rename_i hi; rw [List.getElem?_eq_none (by omega)]; rfl
  have el : laL (newS x y L) = List.replicate L.length 0 := by
    unfold laL newS
    refine List.ext_getElem? fun i => ?_
    simp only [List.getElem?_map, List.getElem?_replicate]
    split
    · rename_i hi; rw [List.getElem?_eq_getElem hi]; rfl
    · rename_i hi; rw [List.getElem?_eq_none (by omega)]; rfl
  have ed : daL (newS x y L) = L := by
    unfold daL newS
    rw [List.map_map]
    exact List.map_id L
  refine ⟨?_, by rw [et]; exact k4.obj hq, by rw [el]; exact k4.obj hr, (cel_bools w3 p L.length hp hL).keep k4, ?_, ?_, ?_, by omega, by omega, nqr, Good.new x y L h1 hL⟩
  · rw [heap_alloc_last]
    unfold rc
    rw [hch]
    rfl
  · rw [ed, hch]
    exact (hC.keep k).keep k4
  · intro z hz
    simp [Value.ownBlock] at hz
    subst hz
    exact ⟨by omega, npq, npr⟩
  · intro z hz
    rw [hch] at hz
    have := hC.lt hz
    exact ⟨by omega, by omega, by omega⟩
theorem alloc3 (u : World) (A B C : Obj) : (((u.alloc A).alloc B).alloc C).heap[u.heap.size]? = some A ∧ (((u.alloc A).alloc B).alloc C).heap[u.heap.size + 1]? = some B ∧ (((u.alloc A).alloc B).alloc C).heap[u.heap.size + 1 + 1]? = some C := by
  have k1 : Keep (u.alloc A) (((u.alloc A).alloc B).alloc C) := ((Keep.refl _).alloc B).alloc C
  have k2 : Keep ((u.alloc A).alloc B) (((u.alloc A).alloc B).alloc C) := (Keep.refl _).alloc C
  have z1 : (u.alloc A).heap.size = u.heap.size + 1 := by simp
  have z2 : ((u.alloc A).alloc B).heap.size = u.heap.size + 1 + 1 := by simp
  have h1 := heap_alloc_last u A
  have h2 := heap_alloc_last (u.alloc A) B
  have h3 := heap_alloc_last ((u.alloc A).alloc B) C
  rw [z1] at h2
  rw [z2] at h3
  exact ⟨k1.obj h1, k2.obj h2, h3⟩
theorem new_fin {w u w9 : World} {x y : Int} {a : Option Addr} {cap p q r g : Nat} {L : List (List UInt8)} {A B C : Obj}
    (h9 : w9 = (((u.alloc A).alloc B).alloc C).alloc (.cells #[.int .i64 x, .int .i64 y, .slice a L.length cap, .slice (some ⟨p, 0, none⟩) L.length L.length, .slice (some ⟨q, 0, none⟩) L.length L.length, .slice (some ⟨r, 0, none⟩) L.length L.length, .int .i64 0, .bool false] 51) ∨
      w9 = ((((u.alloc A).alloc B).alloc C).alloc (.cells #[.int .i64 x, .int .i64 y, .slice a L.length cap, .slice (some ⟨p, 0, none⟩) L.length L.length, .slice (some ⟨q, 0, none⟩) L.length L.length, .slice (some ⟨r, 0, none⟩) L.length L.length, .int .i64 0, .bool false] 51)).drew)
    (hg : u.heap.size + 1 + 1 + 1 = g) (k : Keep w u) (hL : L.length ≤ 256) (h1 : 1 ≤ L.length) (hC : TexS w (.slice a L.length cap) L)
    (hp : (((u.alloc A).alloc B).alloc C).heap[p]? = some (.cells (bc8 (List.replicate L.length false)) 4 (0, 0))) (hq : (((u.alloc A).alloc B).alloc C).heap[q]? = some (.cells (nc (List.replicate L.length 0)) 3 (0, 0))) (hr : (((u.alloc A).alloc B).alloc C).heap[r]? = some (.cells (nc (List.replicate L.length 0)) 3 (0, 0)))
    (kp : u.heap.size ≤ p) (kq : u.heap.size ≤ q) (kr : u.heap.size ≤ r) (npq : p ≠ q) (npr : p ≠ r) (nqr : q ≠ r) :
    ∃ g' bt ba iv, Ending.returned (.pointer (some ⟨g, 0, none⟩)) = .returned (.pointer (some ⟨g', 0, none⟩)) ∧ R w9 g' bt ba a cap iv (newS x y L) ∧ w.heap.size ≤ g' ∧ w.heap.size ≤ bt ∧ w.heap.size ≤ ba ∧ (∀ z, iv.ownBlock = some z → w.heap.size ≤ z) ∧ Keep w w9 := by
  have k3 : Keep w (((u.alloc A).alloc B).alloc C) := ((k.alloc A).alloc B).alloc C
  have ks := k.size
  have e : (((u.alloc A).alloc B).alloc C).heap.size = g := by rw [← hg]; simp
  have hR := R.made (x := x) (y := y) hL h1 k3 hC hp hq hr (by omega) (by omega) (by omega) npq npr nqr
  rw [e] at hR
  refine ⟨g, q, r, .slice (some ⟨p, 0, none⟩) L.length L.length, rfl, ?_, by omega, by omega, by omega, fun z hz => by simp [Value.ownBlock] at hz; omega, ?_⟩
  · rcases h9 with rfl | rfl
    · exact hR
    · exact hR.keep (Keep.refl _).drew
  · rcases h9 with rfl | rfl
    · exact k3.alloc _
    · exact (k3.alloc _).drew
set_option maxRecDepth 100000 in
set_option maxHeartbeats 2000000 in
theorem qnew_at (x y : Int) (a : Option Addr) (cap : Nat) (L : List (List UInt8)) (w : World) (hL : L.length ≤ 256) (h1 : 1 ≤ L.length) (hC : TexS w (.slice a L.length cap) L) : Calls Tryd.prog 13 #[.int .i64 x, .int .i64 y, .slice a L.length cap] w fun e w' =>
    ∃ g bt ba iv, e = .returned (.pointer (some ⟨g, 0, none⟩)) ∧ R w' g bt ba a cap iv (newS x y L) ∧ w.heap.size ≤ g ∧ w.heap.size ≤ bt ∧ w.heap.size ≤ ba ∧ (∀ z, iv.ownBlock = some z → w.heap.size ≤ z) ∧ Keep w w' := by
  have m1 := mk_bools L.length hL
  have m2 := mk_ints L.length hL
  have HB := fun p q r w => build_ref x y a L.length cap p q r w
  have HC := Lib.hid hC
  have HL := Lib.hid (And.intro hL h1)
  clear hC hL h1
  generalize hN : L.length = N at *
  have HN := Lib.hid hN
  clear hN
  generalize hb0 : bc8 (List.replicate N false) = B0 at *
  generalize hn0 : nc (List.replicate N 0) = N0 at *
  have HB0 := Lib.hid hb0
  have HN0 := Lib.hid hn0
  clear hb0 hn0
  go_enter Tryd.func13, Tryd.ntmps13
  go_wp2_with fail
  go_region
  all_goals
    have hl := HL.out.1
    have h1 := HL.out.2
    have hC := HC.out
    have hlen := HN.out
    go_wp2
    go_ret
    subst N0 B0
    subst hlen
    refine new_fin (u := w) (by first | exact .inl rfl | exact .inr rfl) rfl (Keep.refl w) hl h1 hC ?_ ?_ ?_ (by omega) (by omega) (by omega) (by omega) (by omega) (by omega)
    · first | exact (alloc3 _ _ _ _).1 | exact (alloc3 _ _ _ _).2.1 | exact (alloc3 _ _ _ _).2.2
    · first | exact (alloc3 _ _ _ _).1 | exact (alloc3 _ _ _ _).2.1 | exact (alloc3 _ _ _ _).2.2
    · first | exact (alloc3 _ _ _ _).1 | exact (alloc3 _ _ _ _).2.1 | exact (alloc3 _ _ _ _).2.2
end Go.Proofs.YtcnaaoakcmdfkaaDoor
