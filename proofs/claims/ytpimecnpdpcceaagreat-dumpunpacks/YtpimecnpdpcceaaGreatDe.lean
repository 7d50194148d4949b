/- Proved: dump's reader in memory; what its nextPrefix answers, and what becomes of memory. Condition: the reader's cells are known (Dr). -/
import Derived.Test.YtpimecnpdpcceaaGreatDd
import Derived.Test.YtpimecnpdpcceaaGreatDa
import Derived.Test.YtpimecnpdpcceaaGreatMz1
import Derived.Test.YtpimecnpdpcceaaGreatMt
import Derived.RegionTactic
import Derived.BigRegion
namespace Go.Proofs.YtpimecnpdpcceaaGreat
open Go.RowKit

/-- Nothing but two blocks, of what was there, may have turned. -/
structure Two (b g : Nat) (w w' : World) : Prop where
  os : w'.os = w.os
  tape : w'.tape = w.tape
  output : w'.output = w.output
  size : w.heap.size ≤ w'.heap.size
  block : ∀ k, k < w.heap.size → k ≠ b → k ≠ g → w'.heap[k]? = w.heap[k]?
theorem Two.refl (b g : Nat) (w : World) : Two b g w w := ⟨rfl, rfl, rfl, Nat.le_refl _, fun _ _ _ _ => rfl⟩
theorem Two.trans {b g : Nat} {u v w : World} (h : Two b g u v) (k : Two b g v w) : Two b g u w :=
  ⟨k.os.trans h.os, k.tape.trans h.tape, k.output.trans h.output, Nat.le_trans h.size k.size, fun i hi h1 h2 => (k.block i (Nat.lt_of_lt_of_le hi h.size) h1 h2).trans (h.block i hi h1 h2)⟩
theorem Two.left {b g : Nat} {w w' : World} (h : Only b w w') : Two b g w w' := ⟨h.os, h.tape, h.output, h.size, fun i hi h1 _ => h.block i hi h1⟩
theorem Two.right {b g : Nat} {w w' : World} (h : Only g w w') : Two b g w w' := ⟨h.os, h.tape, h.output, h.size, fun i hi _ h2 => h.block i hi h2⟩
theorem Two.keep {b g : Nat} {w w' : World} (h : Keep w w') : Two b g w w' := Two.left (Only.keep h)
theorem Two.made {b g : Nat} {u v w : World} (h : Keep u v) (k : Two b g v w) (hb : u.heap.size ≤ b) (hg : u.heap.size ≤ g) : Keep u w :=
  ⟨k.os.trans h.1, k.tape.trans h.2, k.output.trans h.3, Nat.le_trans h.size k.size, fun i hi => (k.block i (Nat.lt_of_lt_of_le hi h.size) (by omega) (by omega)).trans (h.block i hi)⟩
theorem Two.rowNew {b g : Nat} {u v : World} (h : Two b g u v) (c : Nat) (x : Array Value) (hc : u.heap.size ≤ c) : Two b g u (v.setRow c x) :=
  ⟨h.os, h.tape, h.output, by have := h.size; simpa [World.setRow] using this, fun i hi h1 h2 => by
    rw [← h.block i hi h1 h2]
    simp only [World.setRow, Array.getElem?_modify]
    rw [if_neg (by omega)]⟩
theorem Two.obj {b g c : Nat} {w w' : World} (k : Two b g w w') {o : Obj} (h : w.heap[c]? = some o) (h1 : c ≠ b) (h2 : c ≠ g) : w'.heap[c]? = some o := (k.block c (block_lt h) h1 h2).trans h

/-- The reader's cells: the reader of bytes, the bytes of the prefix ahead, the prefix. -/
def dr (g : Nat) (last : List UInt8) (P : Px) : Array Value := (.pointer (some ⟨g, 0, none⟩) :: .string ⟨last.toArray⟩ :: (pc P).toList).toArray
structure Dr (w : World) (b g : Nat) (s last : List UInt8) (P : Px) : Prop where
  block : w.heap[b]? = some (.cells (dr g last P) 57 (0, 0))
  rd : Rd w g s 0
  ne : b ≠ g
  len : L16 P
  short : last.length ≤ 17
theorem dr_size (g : Nat) (last : List UInt8) (P : Px) (h : L16 P) : (dr g last P).size = 20 := by simp [dr, pcl P h]
theorem Dr.c0 {w : World} {b g : Nat} {s last : List UInt8} {P : Px} (h : Dr w b g s last P) : w.cell? ⟨b, 0, none⟩ = some (.pointer (some ⟨g, 0, none⟩)) := cell_obj h.block rfl
theorem Dr.c1 {w : World} {b g : Nat} {s last : List UInt8} {P : Px} (h : Dr w b g s last P) : w.cell? ⟨b, 1, none⟩ = some (.string ⟨last.toArray⟩) := cell_obj h.block rfl
theorem dr_load {w : World} {b g n : Nat} {last : List UInt8} {P : Px} (hP : L16 P) (h : w.heap[b]? = some (.cells (dr g last P) 57 (0, 0))) (hn : n = 18) : (loadCellsFrom ⟨b, 2, none⟩ 0 n #[]).run Tryz.prog w = .ok (pc P) w := by
  have := load_part (P := Tryz.prog) (o := 2) (n := n) (pc P).toList (by rw [pcl P hP, hn]) h (fun j v hj => by
    simp only [dr, List.getElem?_toArray]
    rw [Nat.add_comm, List.getElem?_cons_succ, List.getElem?_cons_succ]
    exact hj)
  rwa [Array.toArray_toList] at this
theorem dr_set1 (g : Nat) (last s : List UInt8) (P : Px) : (dr g last P).setIfInBounds 1 (.string ⟨s.toArray⟩) = dr g s P := by simp [dr]
theorem dr_store {w : World} {b g : Nat} {last : List UInt8} {P : Px} (hP : L16 P) (h : w.heap[b]? = some (.cells (dr g last P) 57 (0, 0))) (p : Px) (hp : L16 p) : (storeCells ⟨b, 2, none⟩ (pc p).toList).run Tryz.prog w = .ok () (w.setRow b (dr g last p)) := by
  have hsc := run_storeCells_at (P := Tryz.prog) b 2 57 (pc p).toList 0 (dr g last P) w h (by rw [dr_size g last P hP, pcl p hp]; omega) (pc_one p)
  have e : ((dr g last P).toList.take (2 + 0) ++ (pc p).toList ++ (dr g last P).toList.drop (2 + 0 + (pc p).toList.length)).toArray = dr g last p := by
    rw [pcl p hp, List.drop_of_length_le (by simp [dr, pcl P hP])]
    simp [dr]
  rw [e] at hsc
  exact hsc

/-- A prefix, in words of the reader: the prefix, its bytes, what is left. -/
def prefF (prev : Option Px) (last s : List UInt8) : Except Int (Px × List UInt8 × List UInt8) :=
  let (k, s1, x1) := V.uintF s 0
  if x1 ≠ 0 then .error x1 else if last.length < k then .error 4 else
  let (t, s2, x2) := V.textF s1 0 17
  if x2 ≠ 0 then .error x2 else
  match wholeP (last.take k ++ t) with
  | none => .error 4
  | some p => if Dm.com last (last.take k ++ t) ≠ k then .error 4 else if Dm.behind codP prev p = false then .error 6 else .ok (p, last.take k ++ t, s2)
/-- What is ahead: nothing, or a prefix with its bytes. -/
def prevOf (last : List UInt8) (P : Px) : Option Px := if last = [] then none else some P
def PrefPost (b g : Nat) (w : World) (r : Except Int (Px × List UInt8 × List UInt8)) (e : Ending) (w' : World) : Prop := match r with
  | .error x => e = .returned (.tuple #[.agg (pc zeroP), .int .i64 x]) ∧ x ≠ 0 ∧ Two b g w w'
  | .ok (p, c, s) => e = .returned (.tuple #[.agg (pc p), .int .i64 0]) ∧ L16 p ∧ c ≠ [] ∧ Dr w' b g s c p ∧ Two b g w w'
theorem Dr.num {w w' : World} {b g : Nat} {s s1 last : List UInt8} {P : Px} (h : Dr w b g s last P) (o : Only g w w') (r : Rd w' g s1 0) : Dr w' b g s1 last P := ⟨o.obj h.block h.ne, r, h.ne, h.len, h.short⟩
theorem Dr.keep {w w' : World} {b g : Nat} {s last : List UInt8} {P : Px} (h : Dr w b g s last P) (k : Keep w w') : Dr w' b g s last P := ⟨k.obj h.block, h.rd.below k, h.ne, h.len, h.short⟩
theorem Dr.lt {w : World} {b g : Nat} {s last : List UInt8} {P : Px} (h : Dr w b g s last P) : b < w.heap.size ∧ g < w.heap.size := ⟨block_lt h.block, h.rd.lt⟩
end Go.Proofs.YtpimecnpdpcceaaGreat
