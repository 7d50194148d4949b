/- Proved: structs and lists of structs made by literals: routes, changes, tables. No condition. -/
import Derived.Test.YtgocmolebanflaaE
import Derived.Great.BuildSlice
namespace Go.Proofs.Ytgocmolebanflaa
open Go.RowKit

theorem fill_one (place : Nat → Option (Nat × Nat)) (A : Array Value) (i off : Nat) (v : Value) (rest : List (Nat × Value)) (hpl : place i = some (off, v.cells.size)) (h : off + v.cells.size ≤ A.size) :
    Instr.fill place A ((i, v) :: rest) = Instr.fill place (A.toList.take off ++ v.cells.toList ++ A.toList.drop (off + v.cells.size)).toArray rest := by
  have hf := fold_sets off v.cells.toList 0 A (by simpa using h)
  rw [Instr.fill, hpl]
  simp only
  rw [if_neg (by simp; omega)]
  congr 1
  rw [← Array.foldl_toList, Array.toList_zipIdx]
  simpa using hf
theorem built_struct {P : Program} {t : TypeId} {parts : List (Nat × Value)} {it : TypeInfo} {fields : Array Field} {z : Value} {places : List (Nat × Nat)} (hi : P.info? t = some it) (hu : P.underlying t = some (.struct fields)) (hz : it.zero = some z)
    (hp : fields.toList.mapM (fun f => (P.info? f.type).map fun i => (f.offset, i.size)) = some places) : P.built t parts = Instr.fill (places.toArray[·]?) z.cells parts := by
  simp only [Program.built, hi, hu, hz, hp]

theorem info34 : (Try.prog.info? 34).map (fun i => (i.zero, i.size, i.bytes)) = some (some (.agg (rc zeroR)), 20, 48) := by kernel_rfl
theorem under34 : (Try.prog.underlying 34).bind (fun d => match d with | .struct fs => fs.toList.mapM (fun f => (Try.prog.info? f.type).map fun i => (f.offset, i.size)) | _ => none) = some [(0, 18), (18, 1), (19, 1)] := by kernel_rfl
theorem built34 (parts : List (Nat × Value)) : Try.prog.built 34 parts = Instr.fill (([(0, 18), (18, 1), (19, 1)] : List (Nat × Nat)).toArray[·]?) (rc zeroR) parts := by
  obtain ⟨it, hi, hz⟩ : ∃ it, Try.prog.info? 34 = some it ∧ it.zero = some (.agg (rc zeroR)) := by
    have := info34
    cases h : Try.prog.info? 34 with
    | none => rw [h] at this; simp at this
    | some it => rw [h] at this; simp at this; exact ⟨it, rfl, this.1⟩
  have hu := under34
  cases h : Try.prog.underlying 34 with
  | none => rw [h] at hu; simp at hu
  | some d =>
    rw [h] at hu
    cases d <;> simp at hu
    rename_i fs
    exact built_struct (z := .agg (rc zeroR)) hi h hz (by simpa using hu)
theorem rc_of (p : Px) (m s : Int) (hp : p.addr.length = 16) : rc ⟨p, m, s, hp⟩ = ((pc p).toList ++ [Value.int .i64 m, Value.int .u32 s]).toArray := rfl
theorem zero_take : (rc zeroR).toList = (pc zeroP).toList ++ [Value.int .i64 0, Value.int .u32 0] := rfl

theorem build_to (p : Px) (hp : p.addr.length = 16) (w : World) : (Instr.build 34 #[(0, .agg (pc p))]).run Try.prog w = .ok (.agg (rc ⟨p, 0, 0, hp⟩)) w := by
  refine run_build w 34 _ _ ?_
  rw [built34]
  have hs := pc_size p hp
  rw [fill_one _ _ 0 0 _ _ (by simp [Value.cells, hs]) (by simp [Value.cells, hs, rc_size])]
  rw [Instr.fill, zero_take, rc_of]
  simp only [Value.cells, hs, List.take_zero, List.nil_append, Nat.zero_add]
  rw [List.drop_left' (by rw [pcl _ zeroP_len])]
theorem build_no (w : World) : (Instr.build 34 #[]).run Try.prog w = .ok (.agg (rc zeroR)) w := by
  refine run_build w 34 _ _ ?_
  rw [built34]
  rfl
theorem build_way (p : Px) (hp : p.addr.length = 16) (m : Int) (w : World) : (Instr.build 34 #[(0, .agg (pc p)), (1, .int .i64 m)]).run Try.prog w = .ok (.agg (rc ⟨p, m, 0, hp⟩)) w := by
  refine run_build w 34 _ _ ?_
  rw [built34]
  have hs := pc_size p hp
  rw [fill_one _ _ 0 0 _ _ (by simp [Value.cells, hs]) (by simp [Value.cells, hs, rc_size])]
  simp only [Value.cells, hs, List.take_zero, List.nil_append, Nat.zero_add]
  rw [zero_take, List.drop_left' (by rw [pcl _ zeroP_len])]
  rw [fill_one _ _ 1 18 _ _ (by simp [Value.cells]) (by simp [Value.cells, hs])]
  rw [Instr.fill, rc_of]
  simp only [Value.cells]
  rw [List.take_left' (by rw [pcl _ hp]), List.drop_append, pcl _ hp]
  simp [hs]
theorem build_metric (m : Int) (w : World) : (Instr.build 34 #[(1, .int .i64 m)]).run Try.prog w = .ok (.agg (rc ⟨zeroP, m, 0, zeroP_len⟩)) w := by
  refine run_build w 34 _ _ ?_
  rw [built34]
  rw [fill_one _ _ 1 18 _ _ (by simp [Value.cells]) (by simp [Value.cells, rc_size])]
  rw [Instr.fill, zero_take, rc_of]
  simp only [Value.cells]
  rw [List.take_left' (by rw [pcl _ zeroP_len]), List.drop_append, pcl _ zeroP_len]
  simp [pcl zeroP zeroP_len]

/-! ### The operations in a walk -/
section
variable {P : Program} {ops : Array Oper} {rest : List Oper} {o : Oper} {a : Act}
theorem parts_list {parts : Array (Nat × Operand)} {L : List (Nat × Value)} (hp : (parts.toList.map fun x => (x.1, a.eval x.2)) = L) : (parts.map fun (i, x) => (i, a.eval x)) = L.toArray := by
  apply Array.ext'
  rw [Array.toList_map, ← hp]
theorem quiet_build {C : World → Prop} {Q : Act → Prop} (hg : o.guard = none) (t : TypeId) (parts : Array (Nat × Operand)) (ho : o.op = .build t parts) (L : List (Nat × Value)) (hp : (parts.toList.map fun x => (x.1, a.eval x.2)) = L) (v : Value) (hr : ∀ w, (Instr.build t L.toArray).run P w = .ok v w)
    (h : wpQuiet P ops C Q rest (a.put o.dst v)) : wpQuiet P ops C Q (o :: rest) a := by
  refine wpQuiet_step (fun K hK => ?_)
  simp only [Region.wanted, hg, if_true]
  refine ⟨v, fun w _ => ?_, hK _ h⟩
  unfold Oper.quietAt execOp
  simp only [ho, Sem.run_bind, parts_list hp, hr, Result.andThen_ok]
  exact ⟨rfl, rfl⟩
theorem wpList_buildE {Q : Exit → Act → World → Prop} {w : World} (hg : o.guard = none) (t : TypeId) (parts : Array (Nat × Operand)) (ho : o.op = .build t parts) (L : List (Nat × Value)) (hp : (parts.toList.map fun x => (x.1, a.eval x.2)) = L) (v : Value) (hr : (Instr.build t L.toArray).run P w = .ok v w)
    (h : wpList P ops Q rest (a.put o.dst v) w) : wpList P ops Q (o :: rest) a w := by
  refine wpList_plain hg fun K hK => ?_
  unfold Oper.wp execOp
  simp only [ho, Sem.run_bind, parts_list hp, hr, Result.andThen_ok]
  exact hK _ _ h
theorem wpList_sliceE {Q : Exit → Act → World → Prop} {w w' : World} (hg : o.guard = none) (t : TypeId) (n : Nat) (parts : Array (Nat × Operand)) (ho : o.op = .buildSlice t n parts) (L : List (Nat × Value)) (hp : (parts.toList.map fun x => (x.1, a.eval x.2)) = L) (v : Value) (hr : (Instr.buildSlice t n L.toArray).run P w = .ok v w')
    (h : wpList P ops Q rest (a.put o.dst v) w') : wpList P ops Q (o :: rest) a w := by
  refine wpList_plain hg fun K hK => ?_
  unfold Oper.wp execOp
  simp only [ho, Sem.run_bind, parts_list hp, hr, Result.andThen_ok]
  exact hK _ _ h
theorem at_build {Q : Exit → Act → World → Prop} {w : World} {dst : Option Tmp} {t ty : TypeId} {pos : String} {after : Array Edge} {parts : Array (Nat × Operand)} (L : List (Nat × Value)) (hp : (parts.toList.map fun x => (x.1, a.eval x.2)) = L) (v : Value) (hr : (Instr.build t L.toArray).run P w = .ok v w)
    (h : wpList P ops Q rest (a.put dst v) w) : wpList P ops Q ({ dst := dst, op := .build t parts, type := ty, pos := pos, after := after, guard := none } :: rest) a w := wpList_buildE rfl t parts rfl L hp v hr h
theorem at_slice {Q : Exit → Act → World → Prop} {w w' : World} {dst : Option Tmp} {t ty : TypeId} {n : Nat} {pos : String} {after : Array Edge} {parts : Array (Nat × Operand)} (L : List (Nat × Value)) (hp : (parts.toList.map fun x => (x.1, a.eval x.2)) = L) (v : Value) (hr : (Instr.buildSlice t n L.toArray).run P w = .ok v w')
    (h : wpList P ops Q rest (a.put dst v) w') : wpList P ops Q ({ dst := dst, op := .buildSlice t n parts, type := ty, pos := pos, after := after, guard := none } :: rest) a w := wpList_sliceE rfl t n parts rfl L hp v hr h
end

/-! ### Lists by literals -/
theorem base_size (n : Nat) (z : Array Value) : ((Array.range n).map (z[· % z.size]!)).size = n := by simp
theorem info_all (t : TypeId) (z : Value) (s by_ : Nat) (h : (Try.prog.info? t).map (fun i => (i.zero, i.size, i.bytes)) = some (some z, s, by_)) : ∃ it, Try.prog.info? t = some it ∧ it.zero = some z ∧ it.size = s ∧ it.bytes = by_ := by
  cases hh : Try.prog.info? t with
  | none => rw [hh] at h; simp at h
  | some it => rw [hh] at h; simp at h; exact ⟨it, rfl, h.1, h.2.1, h.2.2⟩
theorem slice_one (r : Rt) (w : World) : (Instr.buildSlice 31 1 #[(0, .agg (rc r))]).run Try.prog w = .ok (.slice (some ⟨w.heap.size, 0, none⟩) 1 1) (w.alloc (.cells (rc r) 34)) := by
  obtain ⟨it, hi, hz, hs, _⟩ := info_all 34 _ _ _ info34
  refine run_buildSlice w 31 34 1 _ _ it _ (by kernel_rfl) hi hz (by rw [hs]; omega) (by rw [hs]; omega) ?_
  rw [hs]
  have hr := rc_size r
  rw [fill_one _ _ 0 0 _ _ (by simp [Value.cells, hr]) (by rw [base_size]; simp [Value.cells, hr])]
  rw [Instr.fill]
  simp only [Value.cells, hr, List.take_zero, List.nil_append, Nat.zero_add]
  rw [List.drop_of_length_le (by rw [Array.length_toList, base_size]; omega)]
  simp
theorem slice_two (r s : Rt) (w : World) : (Instr.buildSlice 31 2 #[(0, .agg (rc r)), (1, .agg (rc s))]).run Try.prog w = .ok (.slice (some ⟨w.heap.size, 0, none⟩) 2 2) (w.alloc (.cells (flat rl [r, s]).toArray 34)) := by
  obtain ⟨it, hi, hz, hs, _⟩ := info_all 34 _ _ _ info34
  refine run_buildSlice w 31 34 2 _ _ it _ (by kernel_rfl) hi hz (by rw [hs]; omega) (by rw [hs]; omega) ?_
  rw [hs]
  have hr := rc_size r
  have hs2 := rc_size s
  rw [fill_one _ _ 0 0 _ _ (by simp [Value.cells, hr]) (by rw [base_size]; simp [Value.cells, hr])]
  simp only [Value.cells, hr, List.take_zero, List.nil_append, Nat.zero_add]
  generalize hB : ((Array.range (2 * 20)).map fun x => (rc zeroR)[x % (rc zeroR).size]!).toList.drop 20 = B
  have hBl : B.length = 20 := by rw [← hB]; simp
  rw [fill_one _ _ 1 20 _ _ (by simp [Value.cells, hs2]) (by simp [Value.cells, hr, hs2, hBl])]
  rw [Instr.fill]
  simp only [Value.cells, hs2]
  rw [List.take_left' (by simp [hr]), List.drop_of_length_le (by simp [hr, hBl])]
  simp [flat, rc]

/-! ### Changes -/
structure Ic where
  kind : Int
  route : Rt
def il (i : Ic) : List Value := .int .i64 i.kind :: rl i.route
def ic (i : Ic) : Array Value := (il i).toArray
theorem il_len (i : Ic) : (il i).length = 21 := by rw [il, List.length_cons, rl_len]
theorem ic_size (i : Ic) : (ic i).size = 21 := by simp [ic, il_len]
theorem il_one (i : Ic) : ∀ v ∈ il i, v.oneCell' = true := by
  intro v hv
  rw [il] at hv
  rcases List.mem_cons.1 hv with rfl | h
  · rfl
  · exact rl_one _ v h
def zeroI : Ic := ⟨0, zeroR⟩
instance : Inhabited Ic := ⟨zeroI⟩
theorem info43 : (Try.prog.info? 43).map (fun i => (i.zero, i.size, i.bytes)) = some (some (.agg (ic zeroI)), 21, 56) := by kernel_rfl
theorem under43 : (Try.prog.underlying 43).bind (fun d => match d with | .struct fs => fs.toList.mapM (fun f => (Try.prog.info? f.type).map fun i => (f.offset, i.size)) | _ => none) = some [(0, 1), (1, 20)] := by kernel_rfl
theorem built43 (parts : List (Nat × Value)) : Try.prog.built 43 parts = Instr.fill (([(0, 1), (1, 20)] : List (Nat × Nat)).toArray[·]?) (ic zeroI) parts := by
  obtain ⟨it, hi, hz, _⟩ := info_all 43 _ _ _ info43
  have hu := under43
  cases h : Try.prog.underlying 43 with
  | none => rw [h] at hu; simp at hu
  | some d =>
    rw [h] at hu
    cases d <;> simp at hu
    rename_i fs
    exact built_struct (z := .agg (ic zeroI)) hi h hz (by simpa using hu)
theorem build_inc (k : Int) (r : Rt) (w : World) : (Instr.build 43 #[(0, .int .i64 k), (1, .agg (rc r))]).run Try.prog w = .ok (.agg (ic ⟨k, r⟩)) w := by
  refine run_build w 43 _ _ ?_
  rw [built43]
  have hr := rc_size r
  rw [fill_one _ _ 0 0 _ _ (by simp [Value.cells]) (by simp [Value.cells, ic_size])]
  simp only [Value.cells, List.take_zero, List.nil_append, Nat.zero_add]
  have hz : (ic zeroI).toList.drop 1 = rl zeroR := rfl
  rw [show (#[Value.int IntKind.i64 k] : Array Value).size = 1 from rfl, hz]
  rw [fill_one _ _ 1 1 _ _ (by simp [Value.cells, hr]) (by simp [Value.cells, hr, rl_len])]
  rw [Instr.fill]
  simp only [Value.cells, hr]
  simp [ic, il, rc, rl_len]
theorem slice_inc (i : Ic) (w : World) : (Instr.buildSlice 58 1 #[(0, .agg (ic i))]).run Try.prog w = .ok (.slice (some ⟨w.heap.size, 0, none⟩) 1 1) (w.alloc (.cells (ic i) 43)) := by
  obtain ⟨it, hi, hz, hs, _⟩ := info_all 43 _ _ _ info43
  refine run_buildSlice w 58 43 1 _ _ it _ (by kernel_rfl) hi hz (by rw [hs]; omega) (by rw [hs]; omega) ?_
  rw [hs]
  have hr := ic_size i
  rw [fill_one _ _ 0 0 _ _ (by simp [Value.cells, hr]) (by rw [base_size]; simp [Value.cells, hr])]
  rw [Instr.fill]
  simp only [Value.cells, hr, List.take_zero, List.nil_append, Nat.zero_add]
  rw [List.drop_of_length_le (by rw [Array.length_toList, base_size]; omega)]
  simp
end Go.Proofs.Ytgocmolebanflaa
