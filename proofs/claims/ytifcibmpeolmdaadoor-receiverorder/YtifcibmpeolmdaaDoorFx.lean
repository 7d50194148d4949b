/- Proved: frames in memory, and lists of them; frames made by literals; two frames held against one another; texts in lists; operations in a walk. No condition. -/
import Derived.Test.YtifcibmpeolmdaaDoorRp
import Derived.Test.YtifcibmpeolmdaaDoorVn
import Derived.Test.YtifcibmpeolmdaaDoorMg
import Derived.Test.YtifcibmpeolmdaaDoorQc
import Derived.Great.BuildSlice
import Derived.ChangeSame
namespace Go.Proofs.YtifcibmpeolmdaaDoor
open Go.RowKit

theorem load_block {P : Program} {w : World} {b : Nat} {c : Array Value} {t : TypeId} {fz : Nat × Nat} (n : Nat) (hn : c.size = n) (h : w.heap[b]? = some (.cells c t fz)) :
    (loadCellsFrom ⟨b, 0, none⟩ 0 n #[]).run P w = .ok c w := by
  subst hn
  have := run_loadCells_list (P := P) w ⟨b, 0, none⟩ c.toList (fun j v hv => by
    have hadd : (⟨b, 0, none⟩ : Addr).add j = ⟨b, j, none⟩ := by unfold Addr.add; split <;> simp_all
    rw [hadd, cell_of_row _ _ j c t fz h]
    simpa using hv)
  simpa [loadCells] using this
def fl (f : Fr) : List Value := [.int .i64 f.kind, .int .i64 f.ses, .int .i64 f.ep, .int .i64 f.idx, .int .i64 f.tot, .string ⟨f.data.toArray⟩]
def fc (f : Fr) : Array Value := (fl f).toArray
theorem fc_size (f : Fr) : (fc f).size = 6 := rfl
theorem fc_one (f : Fr) : ∀ v ∈ (fc f).toList, v.oneCell' = true := by
  intro v hv
  simp [fc, fl] at hv
  rcases hv with rfl | rfl | rfl | rfl | rfl | rfl <;> rfl
def FAt (w : World) (b : Nat) (f : Fr) : Prop := w.heap[b]? = some (.cells (fc f) 32 (0, 0))
theorem FAt.keep {w w' : World} {b : Nat} {f : Fr} (h : FAt w b f) (k : Keep w w') : FAt w' b f := k.obj h
theorem FAt.new (w : World) (f : Fr) : FAt (w.alloc (.cells (fc f) 32)) w.heap.size f := heap_alloc_last w _
theorem FAt.whole {w : World} {b n : Nat} {f : Fr} (h : FAt w b f) (hn : n = 6) : (loadCellsFrom ⟨b, 0, none⟩ 0 n #[]).run Tryd.prog w = .ok (fc f) w := load_block n (by rw [fc_size, hn]) h
theorem FAt.kind {w : World} {b : Nat} {f : Fr} (h : FAt w b f) : w.cell? ⟨b, 0, none⟩ = some (.int .i64 f.kind) := cell_obj h rfl
theorem FAt.ses {w : World} {b : Nat} {f : Fr} (h : FAt w b f) : w.cell? ⟨b, 1, none⟩ = some (.int .i64 f.ses) := cell_obj h rfl
theorem FAt.ep {w : World} {b : Nat} {f : Fr} (h : FAt w b f) : w.cell? ⟨b, 2, none⟩ = some (.int .i64 f.ep) := cell_obj h rfl
theorem FAt.idx {w : World} {b : Nat} {f : Fr} (h : FAt w b f) : w.cell? ⟨b, 3, none⟩ = some (.int .i64 f.idx) := cell_obj h rfl
theorem FAt.tot {w : World} {b : Nat} {f : Fr} (h : FAt w b f) : w.cell? ⟨b, 4, none⟩ = some (.int .i64 f.tot) := cell_obj h rfl
theorem FAt.data {w : World} {b : Nat} {f : Fr} (h : FAt w b f) : w.cell? ⟨b, 5, none⟩ = some (.string ⟨f.data.toArray⟩) := cell_obj h rfl
theorem FAt.store {w : World} {b : Nat} {z : Fr} (h : FAt w b z) (f : Fr) : (storeCells ⟨b, 0, none⟩ (fc f).toList).run Tryd.prog w = .ok () (w.setRow b (fc f)) := by
  have hsc := run_storeCells_from (P := Tryd.prog) b 32 (fc f).toList 0 (fc z) w h (by rw [fc_size z]; simp [fc_size f]) (fc_one f)
  rw [List.take_zero, List.nil_append, Array.toArray_toList] at hsc
  exact hsc
theorem FAt.put {w : World} {b : Nat} {z : Fr} (h : FAt w b z) (f : Fr) : FAt (w.setRow b (fc f)) b f := block_row h _
theorem set_seg (L xs : List Value) (i : Nat) (x : Value) (h : i < L.length) : (L.set i x).take (i + 1) ++ xs ++ (L.set i x).drop (i + 1 + xs.length) = L.take i ++ (x :: xs) ++ L.drop (i + (x :: xs).length) := by
  rw [List.drop_set_of_lt (by omega), List.take_add_one, List.take_set_of_le (Nat.le_refl i)]
  simp [h, Nat.add_assoc, Nat.add_comm 1]
theorem fold_sets (o : Nat) : ∀ (xs : List Value) (k : Nat) (A : Array Value), o + k + xs.length ≤ A.size → (xs.zipIdx k).foldl (fun cs x => cs.setIfInBounds (o + x.snd) x.fst) A = (A.toList.take (o + k) ++ xs ++ A.toList.drop (o + k + xs.length)).toArray
  | [], k, A, _ => by simp
  | x :: xs, k, A, h => by
    have h2 : o + k < A.size := by simp at h; omega
    rw [List.zipIdx_cons, List.foldl_cons, fold_sets o xs (k + 1) _ (by simp at h ⊢; omega)]
    apply Array.ext'
    simp only [Array.toList_setIfInBounds]
    exact set_seg A.toList xs (o + k) x (by simpa using h2)
theorem fill_one (place : Nat → Option (Nat × Nat)) (A : Array Value) (i off : Nat) (v : Value) (rest : List (Nat × Value)) (hpl : place i = some (off, v.cells.size)) (h : off + v.cells.size ≤ A.size) :
    Instr.fill place A ((i, v) :: rest) = Instr.fill place (A.toList.take off ++ v.cells.toList ++ A.toList.drop (off + v.cells.size)).toArray rest := by
  have hf := fold_sets off v.cells.toList 0 A (by simpa using h)
  rw [Instr.fill, hpl]
  simp only
  rw [if_neg (by simp; omega)]
  congr 1
  rw [← Array.foldl_toList, Array.toList_zipIdx]
  simpa using hf
theorem fill_cell (place : Nat → Option (Nat × Nat)) (A : Array Value) (i : Nat) (v : Value) (rest : List (Nat × Value)) (hpl : place i = some (i, 1)) (hv : v.cells = #[v]) (h : i < A.size) :
    Instr.fill place A ((i, v) :: rest) = Instr.fill place (A.setIfInBounds i v) rest := by
  rw [fill_one place A i i v rest (by rw [hv]; exact hpl) (by rw [hv]; exact h), hv]
  congr 1
  apply Array.ext'
  simp only [Array.toList_setIfInBounds]
  rw [List.set_eq_take_append_cons_drop, if_pos (by simpa using h)]
  simp
theorem built_struct {P : Program} {t : TypeId} {parts : List (Nat × Value)} {it : TypeInfo} {fields : Array Field} {z : Value} {places : List (Nat × Nat)} (hi : P.info? t = some it) (hu : P.underlying t = some (.struct fields)) (hz : it.zero = some z)
    (hp : fields.toList.mapM (fun f => (P.info? f.type).map fun i => (f.offset, i.size)) = some places) : P.built t parts = Instr.fill (places.toArray[·]?) z.cells parts := by
  simp only [Program.built, hi, hu, hz, hp]
theorem base_size (n : Nat) (z : Array Value) : ((Array.range n).map (z[· % z.size]!)).size = n := by simp
theorem info_all (t : TypeId) (z : Value) (s by_ : Nat) (h : (Tryd.prog.info? t).map (fun i => (i.zero, i.size, i.bytes)) = some (some z, s, by_)) : ∃ it, Tryd.prog.info? t = some it ∧ it.zero = some z ∧ it.size = s ∧ it.bytes = by_ := by
  cases hh : Tryd.prog.info? t with
  | none => rw [hh] at h; simp at h
  | some it => rw [hh] at h; simp at h; exact ⟨it, rfl, h.1, h.2.1, h.2.2⟩
theorem infoF3 : (Tryd.prog.info? 32).map (fun i => (i.zero, i.size, i.bytes)) = some (some (.agg (fc zeroF)), 6, 56) := by kernel_rfl
theorem infoF : (Tryd.prog.info? 32).map (fun i => (i.zero, i.size)) = some (some (.agg (fc zeroF)), 6) := by kernel_rfl
theorem underF : (Tryd.prog.underlying 32).bind (fun d => match d with | .struct fs => fs.toList.mapM (fun f => (Tryd.prog.info? f.type).map fun i => (f.offset, i.size)) | _ => none) = some [(0, 1), (1, 1), (2, 1), (3, 1), (4, 1), (5, 1)] := by kernel_rfl
theorem builtF (parts : List (Nat × Value)) : Tryd.prog.built 32 parts = Instr.fill (([(0, 1), (1, 1), (2, 1), (3, 1), (4, 1), (5, 1)] : List (Nat × Nat)).toArray[·]?) (fc zeroF) parts := by
  obtain ⟨it, hi, hz⟩ : ∃ it, Tryd.prog.info? 32 = some it ∧ it.zero = some (.agg (fc zeroF)) := by
    have := infoF
    cases h : Tryd.prog.info? 32 with
    | none => rw [h] at this; simp at this
    | some it => rw [h] at this; simp at this; exact ⟨it, rfl, this.1⟩
  have hu := underF
  cases h : Tryd.prog.underlying 32 with
  | none => rw [h] at hu; simp at hu
  | some d =>
    rw [h] at hu
    cases d <;> simp at hu
    rename_i fs
    exact built_struct (z := .agg (fc zeroF)) hi h hz (by simpa using hu)
theorem build_zero (w : World) : (Instr.build 32 #[]).run Tryd.prog w = .ok (.agg (fc zeroF)) w := by
  refine run_build w 32 _ _ ?_
  rw [builtF]
  rfl
theorem build_frame (a b c d e : Int) (s : List UInt8) (w : World) : (Instr.build 32 #[(0, .int .i64 a), (1, .int .i64 b), (2, .int .i64 c), (3, .int .i64 d), (4, .int .i64 e), (5, .string ⟨s.toArray⟩)]).run Tryd.prog w = .ok (.agg (fc ⟨a, b, c, d, e, s⟩)) w := by
  refine run_build w 32 _ _ ?_
  rw [builtF, fill_cell _ _ 0 _ _ rfl rfl (by decide), fill_cell _ _ 1 _ _ rfl rfl (by simp [fc_size]), fill_cell _ _ 2 _ _ rfl rfl (by simp [fc_size]), fill_cell _ _ 3 _ _ rfl rfl (by simp [fc_size]), fill_cell _ _ 4 _ _ rfl rfl (by simp [fc_size]), fill_cell _ _ 5 _ _ rfl rfl (by simp [fc_size]), Instr.fill]
  simp [fc, fl, zeroF]
theorem build_frame5 (a b c d e : Int) (w : World) : (Instr.build 32 #[(0, .int .i64 a), (1, .int .i64 b), (2, .int .i64 c), (3, .int .i64 d), (4, .int .i64 e)]).run Tryd.prog w = .ok (.agg (fc ⟨a, b, c, d, e, []⟩)) w := by
  refine run_build w 32 _ _ ?_
  rw [builtF, fill_cell _ _ 0 _ _ rfl rfl (by decide), fill_cell _ _ 1 _ _ rfl rfl (by simp [fc_size]), fill_cell _ _ 2 _ _ rfl rfl (by simp [fc_size]), fill_cell _ _ 3 _ _ rfl rfl (by simp [fc_size]), fill_cell _ _ 4 _ _ rfl rfl (by simp [fc_size]), Instr.fill]
  simp [fc, fl, zeroF]
theorem build_frame3 (a d e : Int) (w : World) : (Instr.build 32 #[(0, .int .i64 a), (3, .int .i64 d), (4, .int .i64 e)]).run Tryd.prog w = .ok (.agg (fc ⟨a, 0, 0, d, e, []⟩)) w := by
  refine run_build w 32 _ _ ?_
  rw [builtF, fill_cell _ _ 0 _ _ rfl rfl (by decide), fill_cell _ _ 3 _ _ rfl rfl (by simp [fc_size]), fill_cell _ _ 4 _ _ rfl rfl (by simp [fc_size]), Instr.fill]
  simp [fc, fl, zeroF]
theorem slice_frame (f : Fr) (w : World) : (Instr.buildSlice 22 1 #[(0, .agg (fc f))]).run Tryd.prog w = .ok (.slice (some ⟨w.heap.size, 0, none⟩) 1 1) (w.alloc (.cells (fc f) 32)) := by
  obtain ⟨it, hi, hz, hs, _⟩ := info_all 32 _ _ _ infoF3
  refine run_buildSlice w 22 32 1 _ _ it _ (by kernel_rfl) hi hz (by rw [hs]; omega) (by rw [hs]; omega) ?_
  rw [hs]
  have hr := fc_size f
  rw [fill_one _ _ 0 0 _ _ (by simp [Value.cells, hr]) (by rw [base_size]; simp [Value.cells, hr])]
  rw [Instr.fill]
  simp only [Value.cells, hr, List.take_zero, List.nil_append, Nat.zero_add]
  rw [List.drop_of_length_le (by rw [Array.length_toList, base_size]; omega)]
  simp
/-- Lists of frames. -/
theorem fl_len (f : Fr) : (fl f).length = 6 := rfl
theorem elF : El 22 32 6 56 fl where
  under := Tryd.underlying22
  info := by
    obtain ⟨it, h1, h2, h3, h4⟩ := info_all 32 _ _ _ infoF3
    exact ⟨it, _, h1, h2, h3, h4, rfl⟩
  len := fl_len
  one := fun f v hv => fc_one f v (by simpa [fc] using hv)
  pos := by decide
abbrev OwnF (B : Nat) (w : World) (v : Value) (L : List Fr) : Prop := Own 32 6 fl B w v L
abbrev CelF (w : World) (v : Value) (L : List Fr) : Prop := Cells fl w v L
theorem OwnF.cells {B : Nat} {w : World} {v : Value} {L : List Fr} (h : OwnF B w v L) : CelF w v L := (Own.row elF h).cells
theorem one_frame (w : World) (f : Fr) : CelF (w.alloc (.cells (fc f) 32)) (.slice (some ⟨w.heap.size, 0, none⟩) 1 1) [f] := by
  refine .inr ⟨w.heap.size, 0, 1, rfl, Nat.le_refl _, by unfold maxLen; omega, by simp, fun j u hj => ?_⟩
  rw [flat_one] at hj
  refine cell_obj (heap_alloc_last w _) ?_
  rw [Nat.zero_add]
  simpa [fc] using hj
/-- Lists of texts. -/
theorem infoS : (Tryd.prog.info? 9).map (fun i => (i.zero, i.size, i.bytes)) = some (some (.string ⟨#[]⟩), 1, 16) := by kernel_rfl
def se (l : List UInt8) : List Value := [.string ⟨l.toArray⟩]
theorem se_len (l : List UInt8) : (se l).length = 1 := rfl
theorem elS : El 38 9 1 16 se := ⟨by kernel_rfl, by
  obtain ⟨it, h1, h2, h3, h4⟩ := info_all 9 _ _ _ infoS
  exact ⟨it, _, h1, h2, h3, h4, rfl⟩, fun _ => rfl, fun x v hv => by
    simp only [se, List.mem_singleton] at hv
    rw [hv]
    rfl, by omega⟩
abbrev OwnS (B : Nat) (w : World) (v : Value) (L : List (List UInt8)) : Prop := Own 9 1 se B w v L
abbrev TexS (w : World) (v : Value) (L : List (List UInt8)) : Prop := Cells se w v L
theorem OwnS.cells {B : Nat} {w : World} {v : Value} {L : List (List UInt8)} (h : OwnS B w v L) : TexS w v L := (Own.row elS h).cells
theorem one_cells (w : World) (s : ByteArray) (l : List UInt8) (h : s = ⟨l.toArray⟩) : TexS (w.alloc (.cells #[.string s] 9)) (.slice (some ⟨w.heap.size, 0, none⟩) 1 1) [l] := by
  subst h
  refine .inr ⟨w.heap.size, 0, 1, rfl, Nat.le_refl _, by unfold maxLen; omega, by simp, fun j u hj => ?_⟩
  have hj0 : j = 0 := by
    have := (List.getElem?_eq_some_iff.1 hj).1
    simp [flat, se] at this
    omega
  subst hj0
  simp [flat, se] at hj
  subst hj
  exact cell_obj (heap_alloc_last w _) rfl
theorem size_of (s : List UInt8) : (⟨s.toArray⟩ : ByteArray).size = s.length := by simp [ByteArray.size]
theorem TexS.text {w : World} {g o cap : Nat} {l : List (List UInt8)} (h : TexS w (.slice (some ⟨g, o, none⟩) l.length cap) l) (j : Nat) (x : List UInt8) (hx : l[j]? = some x) : w.cell? ⟨g, o + j, none⟩ = some (.string ⟨x.toArray⟩) := by
  have := h.cell (k := 1) (fun _ => rfl) j x hx 0 (by omega) (.string ⟨x.toArray⟩) rfl
  simpa using this
/-! ### The operations in a walk -/
section
variable {P : Program} {ops : Array Oper} {rest : List Oper} {o : Oper} {a : Act}
theorem parts_list {parts : Array (Nat × Operand)} {L : List (Nat × Value)} (hp : (parts.toList.map fun x => (x.1, a.eval x.2)) = L) : (parts.map fun (i, x) => (i, a.eval x)) = L.toArray := by
  apply Array.ext'
  rw [Array.toList_map, ← hp]
theorem quiet_build {C : World → Prop} {Q : Act → Prop} (hg : o.guard = none) (t : TypeId) (parts : Array (Nat × Operand)) (ho : o.op = .build t parts) (L : List (Nat × Value)) (hp : (parts.toList.map fun x => (x.1, a.eval x.2)) = L) (v : Value) (hr : ∀ w, (Instr.build t L.toArray).run P w = .ok v w)
    (h : wpQuiet P ops C Q rest (a.put o.dst v)) : wpQuiet P ops C Q (o :: rest) a := by
  refine wpQuiet_step (fun K hK => ?_)
  simp only [Region.wanted, hg, if_true]
  refine ⟨v, fun w _ => ?_, hK _ h⟩
  unfold Oper.quietAt execOp
  simp only [ho, Sem.run_bind, parts_list hp, hr, Result.andThen_ok]
  exact ⟨rfl, rfl⟩
theorem wpList_buildE {Q : Exit → Act → World → Prop} {w : World} (hg : o.guard = none) (t : TypeId) (parts : Array (Nat × Operand)) (ho : o.op = .build t parts) (L : List (Nat × Value)) (hp : (parts.toList.map fun x => (x.1, a.eval x.2)) = L) (v : Value) (hr : (Instr.build t L.toArray).run P w = .ok v w)
    (h : wpList P ops Q rest (a.put o.dst v) w) : wpList P ops Q (o :: rest) a w := by
  refine wpList_plain hg fun K hK => ?_
  unfold Oper.wp execOp
  simp only [ho, Sem.run_bind, parts_list hp, hr, Result.andThen_ok]
  exact hK _ _ h
theorem wpList_sliceE {Q : Exit → Act → World → Prop} {w w' : World} (hg : o.guard = none) (t : TypeId) (n : Nat) (parts : Array (Nat × Operand)) (ho : o.op = .buildSlice t n parts) (L : List (Nat × Value)) (hp : (parts.toList.map fun x => (x.1, a.eval x.2)) = L) (v : Value) (hr : (Instr.buildSlice t n L.toArray).run P w = .ok v w')
    (h : wpList P ops Q rest (a.put o.dst v) w') : wpList P ops Q (o :: rest) a w := by
  refine wpList_plain hg fun K hK => ?_
  unfold Oper.wp execOp
  simp only [ho, Sem.run_bind, parts_list hp, hr, Result.andThen_ok]
  exact hK _ _ h
theorem at_build {Q : Exit → Act → World → Prop} {w : World} {dst : Option Tmp} {t ty : TypeId} {pos : String} {after : Array Edge} {parts : Array (Nat × Operand)} (L : List (Nat × Value)) (hp : (parts.toList.map fun x => (x.1, a.eval x.2)) = L) (v : Value) (hr : (Instr.build t L.toArray).run P w = .ok v w)
    (h : wpList P ops Q rest (a.put dst v) w) : wpList P ops Q ({ dst := dst, op := .build t parts, type := ty, pos := pos, after := after, guard := none } :: rest) a w := wpList_buildE rfl t parts rfl L hp v hr h
theorem at_slice {Q : Exit → Act → World → Prop} {w w' : World} {dst : Option Tmp} {t ty : TypeId} {n : Nat} {pos : String} {after : Array Edge} {parts : Array (Nat × Operand)} (L : List (Nat × Value)) (hp : (parts.toList.map fun x => (x.1, a.eval x.2)) = L) (v : Value) (hr : (Instr.buildSlice t n L.toArray).run P w = .ok v w')
    (h : wpList P ops Q rest (a.put dst v) w') : wpList P ops Q ({ dst := dst, op := .buildSlice t n parts, type := ty, pos := pos, after := after, guard := none } :: rest) a w := wpList_sliceE rfl t n parts rfl L hp v hr h
end

set_option maxRecDepth 100000 in
theorem eq_fc (d : Nat) (a b : Fr) (w : World) : (Op.equalIn (d + 3) 32 (.agg (fc a)) (.agg (fc b))).run Tryd.prog w = .ok (decide (a = b)) w := by
  have e : decide (a = b) = (decide (a.kind = b.kind) && (decide (a.ses = b.ses) && (decide (a.ep = b.ep) && (decide (a.idx = b.idx) && (decide (a.tot = b.tot) && decide (a.data = b.data)))))) := by
    rw [Bool.eq_iff_iff]
    simp only [Bool.and_eq_true, decide_eq_true_eq]
    exact Fr.iff a b
  rw [e, run_equalIn_struct (P := Tryd.prog) w (d + 2) 32 _ _ (by kernel_rfl) (by kernel_rfl)]
  have hf : (Tryd.prog.fieldsOf 32).toList = [{ name := "Kind", type := 3, offset := 0, embedded := false, tag := "", pkgPath := "", byteOffset := 0 }, { name := "Session", type := 3, offset := 1, embedded := false, tag := "", pkgPath := "", byteOffset := 8 }, { name := "Epoch", type := 3, offset := 2, embedded := false, tag := "", pkgPath := "", byteOffset := 16 }, { name := "Index", type := 3, offset := 3, embedded := false, tag := "", pkgPath := "", byteOffset := 24 }, { name := "Total", type := 3, offset := 4, embedded := false, tag := "", pkgPath := "", byteOffset := 32 }, { name := "Data", type := 9, offset := 5, embedded := false, tag := "", pkgPath := "", byteOffset := 40 }] := by kernel_rfl
  rw [hf]
  simp only [Op.eqFields]
  have a0 : (fc a)[0]? = some (.int .i64 a.kind) := rfl
  have a1 : (fc a)[1]? = some (.int .i64 a.ses) := rfl
  have a2 : (fc a)[2]? = some (.int .i64 a.ep) := rfl
  have a3 : (fc a)[3]? = some (.int .i64 a.idx) := rfl
  have a4 : (fc a)[4]? = some (.int .i64 a.tot) := rfl
  have a5 : (fc a)[5]? = some (.string ⟨a.data.toArray⟩) := rfl
  have b0 : (fc b)[0]? = some (.int .i64 b.kind) := rfl
  have b1 : (fc b)[1]? = some (.int .i64 b.ses) := rfl
  have b2 : (fc b)[2]? = some (.int .i64 b.ep) := rfl
  have b3 : (fc b)[3]? = some (.int .i64 b.idx) := rfl
  have b4 : (fc b)[4]? = some (.int .i64 b.tot) := rfl
  have b5 : (fc b)[5]? = some (.string ⟨b.data.toArray⟩) := rfl
  generalize fc a = A at *
  generalize fc b = B at *
  go_simp
  by_cases h1 : a.kind = b.kind
  rotate_left
  · simp only [if_neg h1, decide_eq_false h1, Bool.false_and]
  simp only [if_pos h1, decide_eq_true h1, Bool.true_and]
  by_cases h2 : a.ses = b.ses
  rotate_left
  · simp only [if_neg h2, decide_eq_false h2, Bool.false_and]
  simp only [if_pos h2, decide_eq_true h2, Bool.true_and]
  by_cases h3 : a.ep = b.ep
  rotate_left
  · simp only [if_neg h3, decide_eq_false h3, Bool.false_and]
  simp only [if_pos h3, decide_eq_true h3, Bool.true_and]
  by_cases h4 : a.idx = b.idx
  rotate_left
  · simp only [if_neg h4, decide_eq_false h4, Bool.false_and]
  simp only [if_pos h4, decide_eq_true h4, Bool.true_and]
  by_cases h5 : a.tot = b.tot
  rotate_left
  · simp only [if_neg h5, decide_eq_false h5, Bool.false_and]
  simp only [if_pos h5, decide_eq_true h5, Bool.true_and]
  by_cases h6 : a.data = b.data
  rotate_left
  · simp only [if_neg h6, decide_eq_false h6]
  simp only [if_pos h6, decide_eq_true h6]

end Go.Proofs.YtifcibmpeolmdaaDoor
