/- Proved: frames made by literals; what the method frame answers; bytes copied into a head. Condition: a head has fifteen bytes. -/
import Derived.Test.YtcdcnlaijbjonaaFd
namespace Go.Proofs.Ytcdcnlaijbjonaa
open Go.RowKit

theorem set_seg (L xs : List Value) (i : Nat) (x : Value) (h : i < L.length) : (L.set i x).take (i + 1) ++ xs ++ (L.set i x).drop (i + 1 + xs.length) = L.take i ++ (x :: xs) ++ L.drop (i + (x :: xs).length) := by
  rw [List.drop_set_of_lt (by omega), List.take_add_one, List.take_set_of_le (Nat.le_refl i)]
  simp [h, Nat.add_assoc, Nat.add_comm 1]
theorem fold_sets (o : Nat) : ∀ (xs : List Value) (k : Nat) (A : Array Value), o + k + xs.length ≤ A.size → (xs.zipIdx k).foldl (fun cs x => cs.setIfInBounds (o + x.snd) x.fst) A = (A.toList.take (o + k) ++ xs ++ A.toList.drop (o + k + xs.length)).toArray
  | [], k, A, _ => by simp
  | x :: xs, k, A, h => by
    have h2 : o + k < A.size := by simp at h; omega
    rw [List.zipIdx_cons, List.foldl_cons, fold_sets o xs (k + 1) _ (by simp at h ⊢; omega)]
    apply Array.ext'
    simp only [Array.toList_setIfInBounds]
    exact set_seg A.toList xs (o + k) x (by simpa using h2)
theorem fill_one (place : Nat → Option (Nat × Nat)) (A : Array Value) (i off : Nat) (v : Value) (rest : List (Nat × Value)) (hpl : place i = some (off, v.cells.size)) (h : off + v.cells.size ≤ A.size) :
    Instr.fill place A ((i, v) :: rest) = Instr.fill place (A.toList.take off ++ v.cells.toList ++ A.toList.drop (off + v.cells.size)).toArray rest := by
  have hf := fold_sets off v.cells.toList 0 A (by simpa using h)
  rw [Instr.fill, hpl]
  simp only
  rw [if_neg (by simp; omega)]
  congr 1
  rw [← Array.foldl_toList, Array.toList_zipIdx]
  simpa using hf
theorem fill_cell (place : Nat → Option (Nat × Nat)) (A : Array Value) (i : Nat) (v : Value) (rest : List (Nat × Value)) (hpl : place i = some (i, 1)) (hv : v.cells = #[v]) (h : i < A.size) :
    Instr.fill place A ((i, v) :: rest) = Instr.fill place (A.setIfInBounds i v) rest := by
  rw [fill_one place A i i v rest (by rw [hv]; exact hpl) (by rw [hv]; exact h), hv]
  congr 1
  apply Array.ext'
  simp only [Array.toList_setIfInBounds]
  rw [List.set_eq_take_append_cons_drop, if_pos (by simpa using h)]
  simp
theorem built_struct {P : Program} {t : TypeId} {parts : List (Nat × Value)} {it : TypeInfo} {fields : Array Field} {z : Value} {places : List (Nat × Nat)} (hi : P.info? t = some it) (hu : P.underlying t = some (.struct fields)) (hz : it.zero = some z)
    (hp : fields.toList.mapM (fun f => (P.info? f.type).map fun i => (f.offset, i.size)) = some places) : P.built t parts = Instr.fill (places.toArray[·]?) z.cells parts := by
  simp only [Program.built, hi, hu, hz, hp]
theorem infoF : (Try.prog.info? 23).map (fun i => (i.zero, i.size)) = some (some (.agg (fc zeroF)), 6) := by kernel_rfl
theorem underF : (Try.prog.underlying 23).bind (fun d => match d with | .struct fs => fs.toList.mapM (fun f => (Try.prog.info? f.type).map fun i => (f.offset, i.size)) | _ => none) = some [(0, 1), (1, 1), (2, 1), (3, 1), (4, 1), (5, 1)] := by kernel_rfl
theorem builtF (parts : List (Nat × Value)) : Try.prog.built 23 parts = Instr.fill (([(0, 1), (1, 1), (2, 1), (3, 1), (4, 1), (5, 1)] : List (Nat × Nat)).toArray[·]?) (fc zeroF) parts := by
  obtain ⟨it, hi, hz⟩ : ∃ it, Try.prog.info? 23 = some it ∧ it.zero = some (.agg (fc zeroF)) := by
    have := infoF
    cases h : Try.prog.info? 23 with
    | none => rw [h] at this; simp at this
    | some it => rw [h] at this; simp at this; exact ⟨it, rfl, this.1⟩
  have hu := underF
  cases h : Try.prog.underlying 23 with
  | none => rw [h] at hu; simp at hu
  | some d =>
    rw [h] at hu
    cases d <;> simp at hu
    rename_i fs
    exact built_struct (z := .agg (fc zeroF)) hi h hz (by simpa using hu)
theorem build_zero (w : World) : (Instr.build 23 #[]).run Try.prog w = .ok (.agg (fc zeroF)) w := by
  refine run_build w 23 _ _ ?_
  rw [builtF]
  rfl
theorem build_frame (a b c d e : Int) (s : List UInt8) (w : World) : (Instr.build 23 #[(0, .int .i64 a), (1, .int .i64 b), (2, .int .i64 c), (3, .int .i64 d), (4, .int .i64 e), (5, .string ⟨s.toArray⟩)]).run Try.prog w = .ok (.agg (fc ⟨a, b, c, d, e, s⟩)) w := by
  refine run_build w 23 _ _ ?_
  rw [builtF, fill_cell _ _ 0 _ _ rfl rfl (by decide), fill_cell _ _ 1 _ _ rfl rfl (by simp [fc_size]), fill_cell _ _ 2 _ _ rfl rfl (by simp [fc_size]), fill_cell _ _ 3 _ _ rfl rfl (by simp [fc_size]), fill_cell _ _ 4 _ _ rfl rfl (by simp [fc_size]), fill_cell _ _ 5 _ _ rfl rfl (by simp [fc_size]), Instr.fill]
  simp [fc, fl, zeroF]

/-! ### The operations in a walk -/
section
variable {P : Program} {ops : Array Oper} {rest : List Oper} {o : Oper} {a : Act}
theorem parts_list {parts : Array (Nat × Operand)} {L : List (Nat × Value)} (hp : (parts.toList.map fun x => (x.1, a.eval x.2)) = L) : (parts.map fun (i, x) => (i, a.eval x)) = L.toArray := by
  apply Array.ext'
  rw [Array.toList_map, ← hp]
theorem wpList_buildE {Q : Exit → Act → World → Prop} {w : World} (hg : o.guard = none) (t : TypeId) (parts : Array (Nat × Operand)) (ho : o.op = .build t parts) (L : List (Nat × Value)) (hp : (parts.toList.map fun x => (x.1, a.eval x.2)) = L) (v : Value) (hr : (Instr.build t L.toArray).run P w = .ok v w)
    (h : wpList P ops Q rest (a.put o.dst v) w) : wpList P ops Q (o :: rest) a w := by
  refine wpList_plain hg fun K hK => ?_
  unfold Oper.wp execOp
  simp only [ho, Sem.run_bind, parts_list hp, hr, Result.andThen_ok]
  exact hK _ _ h
theorem at_build {Q : Exit → Act → World → Prop} {w : World} {dst : Option Tmp} {t ty : TypeId} {pos : String} {after : Array Edge} {parts : Array (Nat × Operand)} (L : List (Nat × Value)) (hp : (parts.toList.map fun x => (x.1, a.eval x.2)) = L) (v : Value) (hr : (Instr.build t L.toArray).run P w = .ok v w)
    (h : wpList P ops Q rest (a.put dst v) w) : wpList P ops Q ({ dst := dst, op := .build t parts, type := ty, pos := pos, after := after, guard := none } :: rest) a w := wpList_buildE rfl t parts rfl L hp v hr h
end

theorem info5 : (Try.prog.info? 5).map (·.size) = some 1 := by kernel_rfl
theorem run_copy_text {P : Program} (w : World) (dT sT ty elem : TypeId) (g o dLen dCap : Nat) (s : ByteArray) (cur : Array Value) (t : TypeId)
    (hu : P.underlying dT = some (.slice elem)) (hs : (P.info? elem).map (·.size) = some 1) (hg : w.heap[g]? = some (.cells cur t (0, 0))) (hge : dLen ≤ s.size) (hfit : o + dLen ≤ cur.size) :
    (Builtin.copy_ #[dT, sT] ty #[.slice (some ⟨g, o, none⟩) dLen dCap, .string s]).run P w =
      .ok (goInt dLen) (w.setRow g (cur.toList.take o ++ Lib.byteCells (s.data.toList.take dLen) ++ cur.toList.drop (o + dLen)).toArray) := by
  have hlen : (Lib.byteCells (s.data.toList.take dLen)).length = dLen := by rw [Lib.byteCells_length, List.length_take, ← Lib.size_eq]; omega
  have hst := run_storeCells_at P g o t (Lib.byteCells (s.data.toList.take dLen)) 0 cur w hg (by rw [hlen]; simpa using hfit) (Lib.byteCells_one _)
  have hmin : Nat.min s.size dLen = dLen := Nat.min_eq_right hge
  have htk : List.take dLen (List.map (fun b : UInt8 => Value.int IntKind.u8 (b.toNat : Int)) s.data.toList) = Lib.byteCells (s.data.toList.take dLen) := by
    rw [← List.map_take]
    rfl
  rw [hlen] at hst
  simp only [Nat.add_zero] at hst
  cases hq : P.info? elem with
  | none => simp [hq] at hs
  | some i =>
    simp [Builtin.copy_, run_underlying hu, Builtin.lenOf, Builtin.firstCells, sizeOf, typeInfo, hq, hmin]
    rw [htk, hst]
    simp [Result.andThen]
theorem copy_head (w : World) (g : Nat) (l : List UInt8) (hl : 15 ≤ l.length) (q : HAt w g zh) :
    (Builtin.copy_ #[44, 9] 3 #[.slice (some ⟨g, 0, none⟩) 15 15, .string ⟨l.toArray⟩]).run Try.prog w = .ok (.int .i64 15) (w.setRow g (ac (l.take 15))) := by
  have hs : (⟨l.toArray⟩ : ByteArray).size = l.length := by simp [ByteArray.size]
  have h := run_copy_text (P := Try.prog) w 44 9 3 5 g 0 15 15 ⟨l.toArray⟩ (ac zh) 41 Try.underlying44 info5 q.block (by rw [hs]; exact hl) (by rw [ac_size, zh_len]; omega)
  rw [h]
  have e : ((ac zh).toList.take 0 ++ Lib.byteCells ((⟨l.toArray⟩ : ByteArray).data.toList.take 15) ++ (ac zh).toList.drop (0 + 15)).toArray = ac (l.take 15) := by
    unfold ac
    refine congrArg _ ?_
    rw [List.take_zero, List.nil_append, List.drop_of_length_le (by simp [zh]), List.append_nil]
    rfl
  rw [e]
  rfl

set_option maxRecDepth 100000 in
theorem frame_at (b : Nat) (h d : List UInt8) (w : World) (q : HAt w b h) : Calls Try.prog 21 #[.pointer (some ⟨b, 0, none⟩), .string ⟨d.toArray⟩] w fun e w' => e = .returned (.agg (fc (frameF h d))) ∧ Keep w w' := by
  have hF := FAt.new w zeroF
  have hK := (Keep.refl w).alloc (.cells (fc zeroF) 23)
  have hQ := q.keep hK
  obtain ⟨hz, _⟩ := zero_of_info infoF
  obtain ⟨n, hn⟩ : ∃ n, n = 6 := ⟨6, rfl⟩
  have hsz : ∀ w, (Go.sizeOf 23).run Try.prog w = .ok n w := fun w => by rw [hn]; exact Try.sizeOf23 w
  have hn0 : ¬ n = 0 := by omega
  have N1 := Lib.hid (number_at b h 0 1 (by omega) (by omega) (by omega) _ hQ)
  have N2 := Lib.hid (number_at b h 1 4 (by omega) (by omega) (by omega) _ hQ)
  have N3 := Lib.hid (number_at b h 5 4 (by omega) (by omega) (by omega) _ hQ)
  have N4 := Lib.hid (number_at b h 9 2 (by omega) (by omega) (by omega) _ hQ)
  have N5 := Lib.hid (number_at b h 11 2 (by omega) (by omega) (by omega) _ hQ)
  have HB := Lib.hid (fun w => build_frame (numb h 0 1) (numb h 1 4) (numb h 5 4) (numb h 9 2) (numb h 11 2) d w)
  rw [show (⟨(numb h 0 1 : Nat), (numb h 1 4 : Nat), (numb h 5 4 : Nat), (numb h 9 2 : Nat), (numb h 11 2 : Nat), d⟩ : Fr) = frameF h d from rfl] at HB
  generalize frameF h d = f at *
  have hst := hF.store f
  have hl2 := (hF.put f).whole hn
  have hzs : (fc f).size = n := by rw [hn]; rfl
  have HK := Lib.hid (hK.setRow w.heap.size (fc f) (Nat.le_refl _))
  clear hQ hF hK hn q
  go_enter Try.func21, Try.ntmps21
  generalize fc zeroF = Z at *
  generalize fc f = C at *
  generalize numb h 0 1 = a1 at *
  generalize numb h 1 4 = a2 at *
  generalize numb h 5 4 = a3 at *
  generalize numb h 9 2 = a4 at *
  generalize numb h 11 2 = a5 at *
  go_wp2_with fail
  refine N1.out.mono ?_
  rintro e w1 ⟨rfl, rfl⟩
  go_wp2_with fail
  refine N2.out.mono ?_
  rintro e w1 ⟨rfl, rfl⟩
  go_wp2_with fail
  refine N3.out.mono ?_
  rintro e w1 ⟨rfl, rfl⟩
  go_wp2_with fail
  refine N4.out.mono ?_
  rintro e w1 ⟨rfl, rfl⟩
  go_wp2_with fail
  refine N5.out.mono ?_
  rintro e w1 ⟨rfl, rfl⟩
  go_wp2_with ((with_reducible refine at_build (t := 23) [(0, .int .i64 a1), (1, .int .i64 a2), (2, .int .i64 a3), (3, .int .i64 a4), (4, .int .i64 a5), (5, .string ⟨d.toArray⟩)] ?_ (.agg C) ?_ ?_); rfl; exact HB.out _)
  refine bodyPost_ret (v := .agg C) ?_ rfl ⟨rfl, HK.out⟩
  simp [results, Try.results21, go_sem, hsz, hl2]
end Go.Proofs.Ytcdcnlaijbjonaa
