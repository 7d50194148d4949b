/- Proved: what the sender's New answers, and what it does to memory. Condition: the library's table is as its text lays it; the list of texts lies in memory, and has at most 300 of them. -/
import Derived.Test.YtcnaaoakcmdfkaaDoorSh
namespace Go.Proofs.YtcnaaoakcmdfkaaDoor
open Go.RowKit

theorem info65b : (Tryd.prog.info? 65).map (fun i => (i.zero, i.size, i.bytes)) = some (some (.agg (ke zeroC).toArray), 3, 32) := by kernel_rfl
theorem made_kc (n : Nat) : madeCells (Value.agg (ke zeroC).toArray).cells (n * 3) = kc (List.replicate n zeroC) := by
  apply Array.ext
  · rw [size_madeCells, kc_size, List.length_replicate]
  · intro i h1 h2
    rw [size_madeCells] at h1
    have hq : i / 3 < n := by omega
    have hg := flat_get ke ke_len (List.replicate n zeroC) (i / 3) zeroC (by rw [List.getElem?_replicate, if_pos hq]) (i % 3) (Nat.mod_lt _ (by omega))
    rw [show i / 3 * 3 + i % 3 = i by omega] at hg
    have e2 : (kc (List.replicate n zeroC))[i]? = (ke zeroC)[i % 3]? := by unfold kc; rw [List.getElem?_toArray, hg]
    have e1 : (madeCells (Value.agg (ke zeroC).toArray).cells (n * 3))[i]? = (ke zeroC)[i % 3]? := by
      simp only [madeCells, Value.cells]
      rw [Array.getElem?_map, Array.getElem?_range]
      simp only [h1, if_true, Option.map_some]
      have hs : (ke zeroC).toArray.size = 3 := rfl
      rw [hs]
      rcases (show i % 3 = 0 ∨ i % 3 = 1 ∨ i % 3 = 2 by omega) with h | h | h <;> rw [h] <;> rfl
    have := e1.trans e2.symm
    rw [Array.getElem?_eq_getElem (by rw [size_madeCells]; exact h1), Array.getElem?_eq_getElem h2] at this
    exact Option.some.inj this
theorem make_chunks (n : Nat) (hn : n ≤ 300) (w : World) : (Instr.makeSlice 63 (.int .i64 n) (.int .i64 n)).run Tryd.prog w = .ok (.slice (some ⟨w.heap.size, 0, none⟩) n n) (w.alloc (.cells (kc (List.replicate n zeroC)) 65)) := by
  obtain ⟨i0, hi, hz0, hz1, hz2⟩ := info_all 65 _ _ _ info65b
  have h := run_make (P := Tryd.prog) w 63 65 i0 (.agg (ke zeroC).toArray) Tryd.underlying63 hi hz0 .i64 .i64 n n (by omega) (Int.le_refl _) (by rw [hz2]; omega) (by omega)
  rw [h, hz1, Int.toNat_natCast, made_kc]
/-- A sender's cells, of none. -/
def z6 : Array Value := #[.pointer none, .int .i64 0, .int .i64 0, .slice none 0 0, .int .i64 0, .bool false]
theorem info67 : (Tryd.prog.info? 67).map (fun i => (i.zero, i.size)) = some (some (.agg z6), 6) := by kernel_rfl
theorem info69 : (Tryd.prog.info? 69).map (fun i => (i.zero, i.size)) = some (some (.agg z6), 6) := by kernel_rfl
theorem under67 : (Tryd.prog.underlying 67).bind (fun d => match d with | .struct fs => fs.toList.mapM (fun f => (Tryd.prog.info? f.type).map fun i => (f.offset, i.size)) | _ => none) = some [(0, 1), (1, 1), (2, 1), (3, 1), (4, 1), (5, 1)] := by kernel_rfl
theorem under69 : (Tryd.prog.underlying 69).bind (fun d => match d with | .struct fs => fs.toList.mapM (fun f => (Tryd.prog.info? f.type).map fun i => (f.offset, i.size)) | _ => none) = some [(0, 6)] := by kernel_rfl
theorem built_of {t : TypeId} {z : Value} {n : Nat} {L : List (Nat × Nat)} (hi0 : (Tryd.prog.info? t).map (fun i => (i.zero, i.size)) = some (some z, n))
    (hu : (Tryd.prog.underlying t).bind (fun d => match d with | .struct fs => fs.toList.mapM (fun f => (Tryd.prog.info? f.type).map fun i => (f.offset, i.size)) | _ => none) = some L) (parts : List (Nat × Value)) : Tryd.prog.built t parts = Instr.fill (L.toArray[·]?) z.cells parts := by
  obtain ⟨it, hi, hz⟩ : ∃ it, Tryd.prog.info? t = some it ∧ it.zero = some z := by
    cases h : Tryd.prog.info? t with
    | none => rw [h] at hi0; simp at hi0
    | some it => rw [h] at hi0; simp at hi0; exact ⟨it, rfl, hi0.1⟩
  cases h : Tryd.prog.underlying t with
  | none => rw [h] at hu; simp at hu
  | some d =>
    rw [h] at hu
    cases d <;> simp at hu
    rename_i fs
    exact built_struct (z := z) hi h hz (by simpa using hu)
theorem build_sending (bm bc n : Nat) (a b : Int) (w : World) : (Instr.build 67 #[(0, .pointer (some ⟨bm, 0, none⟩)), (1, .int .i64 a), (2, .int .i64 b), (3, .slice (some ⟨bc, 0, none⟩) n n)]).run Tryd.prog w = .ok (.agg #[.pointer (some ⟨bm, 0, none⟩), .int .i64 a, .int .i64 b, .slice (some ⟨bc, 0, none⟩) n n, .int .i64 0, .bool false]) w := by
  refine run_build w 67 _ _ ?_
  rw [built_of info67 under67]
  simp only [Value.cells]
  rw [fill_cell _ _ 0 _ _ rfl rfl (by decide), fill_cell _ _ 1 _ _ rfl rfl (by simp [z6]), fill_cell _ _ 2 _ _ rfl rfl (by simp [z6]), fill_cell _ _ 3 _ _ rfl rfl (by simp [z6]), Instr.fill]
  simp [z6]
theorem build_sender (C : Array Value) (hC : C.size = 6) (w : World) : (Instr.build 69 #[(0, .agg C)]).run Tryd.prog w = .ok (.agg C) w := by
  refine run_build w 69 _ _ ?_
  rw [built_of info69 under69]
  simp only [Value.cells]
  rw [fill_one _ _ 0 0 _ _ (by simp [Value.cells, hC]) (by simp [Value.cells, hC, z6]), Instr.fill]
  simp only [Value.cells, hC, List.take_zero, List.nil_append, Nat.zero_add]
  rw [List.drop_of_length_le (by simp [z6])]
  simp

/-- The chunks of the first k texts. -/
def ckOf (L : List (List UInt8)) : List Ck := L.map fun t => ⟨t, 0, 0⟩
def ckK (L : List (List UInt8)) (k : Nat) : List Ck := (ckOf L).take k ++ List.replicate (L.length - k) zeroC
theorem ckK_zero (L : List (List UInt8)) : ckK L 0 = List.replicate L.length zeroC := by simp [ckK]
theorem ckK_full (L : List (List UInt8)) : ckK L L.length = ckOf L := by
  unfold ckK
  rw [List.take_of_length_le (by simp [ckOf]), Nat.sub_self]
  simp
theorem ckK_at (L : List (List UInt8)) (k : Nat) (h : k < L.length) : (ckK L k)[k]? = some zeroC := by
  unfold ckK
  rw [List.getElem?_append_right (by simp [ckOf]; omega)]
  simp [ckOf, List.getElem?_replicate]
  omega
theorem ckK_next (L : List (List UInt8)) (k : Nat) (t : List UInt8) (h : L[k]? = some t) : (ckK L k).set k ⟨t, 0, 0⟩ = ckK L (k + 1) := by
  have hk := (List.getElem?_eq_some_iff.1 h).1
  have hl : ((ckOf L).take k).length = k := by simp [ckOf]; omega
  have e : (ckOf L)[k]? = some ⟨t, 0, 0⟩ := by unfold ckOf; rw [List.getElem?_map, h]; rfl
  unfold ckK
  rw [List.set_append_right _ _ (by omega), hl, Nat.sub_self, List.take_add_one, e, Option.toList_some]
  rw [show L.length - k = (L.length - (k + 1)) + 1 by omega, List.replicate_succ]
  simp
theorem all_of_next {L : List (List UInt8)} {k : Nat} {t : List UInt8} (h : ∀ x ∈ L.take k, x.length ≤ 1000) (hk : L[k]? = some t) (ht : t.length ≤ 1000) : ∀ x ∈ L.take (k + 1), x.length ≤ 1000 := fun x hx => by
  rw [List.take_add_one, hk, Option.toList_some, List.mem_append] at hx
  rcases hx with hx | hx
  · exact h x hx
  · simp at hx; rw [hx]; exact ht
end Go.Proofs.YtcnaaoakcmdfkaaDoor
