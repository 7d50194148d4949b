/- Proved: what the receiver's count, keep, Done, There and Drops do to memory and answer, and all of its calls of a nil one. Condition: the receiver lies in memory (S), or the pointer is nil. -/
import Derived.Test.YtifcibmpeolmdaaDoorPa
import Derived.Test.YtifcibmpeolmdaaDoorT
namespace Go.Proofs.YtifcibmpeolmdaaDoor
open Go.RowKit

set_option maxRecDepth 100000 in
theorem vdone_nil (w : World) : Calls Tryd.prog 18 #[.pointer none] w fun e w' => e = .returned (.bool false) ∧ w' = w := by
  go_enter Tryd.func18, Tryd.ntmps18
  go_wp2
  go_ret
  exact ⟨rfl, rfl⟩
set_option maxRecDepth 100000 in
theorem vthere_nil (w : World) : Calls Tryd.prog 25 #[.pointer none] w fun e w' => e = .returned (.pointer none) ∧ w' = w := by
  go_enter Tryd.func25, Tryd.ntmps25
  go_wp2
  go_ret
  exact ⟨rfl, rfl⟩
set_option maxRecDepth 100000 in
theorem vdrops_nil (i : Int) (w : World) : Calls Tryd.prog 20 #[.pointer none, .int .i64 i] w fun e w' => e = .returned (.int .i64 0) ∧ w' = w := by
  go_enter Tryd.func20, Tryd.ntmps20
  go_wp2
  go_ret
  exact ⟨rfl, rfl⟩
set_option maxRecDepth 100000 in
theorem vdata_nil (w : World) : Calls Tryd.prog 21 #[.pointer none] w fun e w' => e = .returned (.tuple #[.string ⟨#[]⟩, .int .i64 10]) ∧ w' = w := by
  go_enter Tryd.func21, Tryd.ntmps21
  go_wp2
  go_ret2
  exact ⟨rfl, rfl⟩
set_option maxRecDepth 100000 in
theorem vcursor_nil (w : World) : Calls Tryd.prog 23 #[.pointer none] w fun e w' => e = .returned (.string ⟨#[]⟩) ∧ w' = w := by
  go_enter Tryd.func23, Tryd.ntmps23
  go_wp2
  go_ret
  exact ⟨rfl, rfl⟩
set_option maxRecDepth 100000 in
theorem vtake_nil (f : Fr) (w : World) : Calls Tryd.prog 14 #[.pointer none, .agg (fc f)] w fun e w' => e = .returned (.int .i64 10) ∧ Keep w w' := by
  have HK := Lib.hid ((Keep.refl w).alloc (.cells (fc f) 32))
  generalize fc f = C at *
  go_enter Tryd.func14, Tryd.ntmps14
  go_wp2
  go_ret
  exact ⟨rfl, HK.out⟩

theorem eq_map_none (w : World) : (binOp .eql 68 (.map none) (.map none)).run Tryd.prog w = .ok (.bool true) w := by kernel_rfl
theorem eq_map_some (x : Nat) (w : World) : (binOp .eql 68 (.map (some x)) (.map none)).run Tryd.prog w = .ok (.bool false) w := by kernel_rfl
section
variable {b bm bc : Nat} {m : Option Nat} {r : Rv} {w : World}
set_option maxRecDepth 100000 in
theorem vdone_at (h : S w b bm bc m r) : Calls Tryd.prog 18 #[.pointer (some ⟨b, 0, none⟩)] w fun e w' => e = .returned (.bool (decide r.full)) ∧ Keep w w' := by
  have c0 := h.ptr
  have HF := Lib.hid (full_at bm r.l w h.map)
  rw [show decide (baseN r.l = r.l.length) = decide r.full from decide_eq_decide.2 (by unfold Rv.full; rw [h.good.len])] at HF
  clear h
  generalize decide r.full = B at *
  go_enter Tryd.func18, Tryd.ntmps18
  go_wp2_with fail
  refine HF.out.mono ?_
  rintro e w1 ⟨rfl, k1⟩
  clear c0
  go_wp2
  go_ret
  exact ⟨rfl, k1⟩
set_option maxRecDepth 100000 in
theorem vthere_at (h : S w b bm bc m r) : Calls Tryd.prog 25 #[.pointer (some ⟨b, 0, none⟩)] w fun e w' => ∃ c, e = .returned (.pointer (some ⟨c, 0, none⟩)) ∧ w.heap.size ≤ c ∧ M w' c r.l ∧ Keep w w' := by
  have c0 := h.ptr
  have HF := Lib.hid (copy_at bm r.l w h.map)
  clear h
  go_enter Tryd.func25, Tryd.ntmps25
  go_wp2_with fail
  refine HF.out.mono ?_
  rintro e w1 ⟨c, rfl, hc, m1, k1⟩
  clear c0
  go_wp2
  go_ret
  exact ⟨c, rfl, hc, m1, k1⟩
set_option maxRecDepth 100000 in
theorem vdrops_at (i : Int) (h : S w b bm bc m r) : Calls Tryd.prog 20 #[.pointer (some ⟨b, 0, none⟩), .int .i64 i] w fun e w' => e = .returned (.int .i64 (r.d i : Nat)) ∧ w' = w := by
  have c0 := h.drops
  have hl := h.cnt.look i
  clear h
  generalize r.d i = z at *
  go_enter Tryd.func20, Tryd.ntmps20
  go_wp2
  go_ret
  exact ⟨rfl, rfl⟩
set_option maxRecDepth 100000 in
theorem vkeep_at (i : Nat) (s : List UInt8) (hi : i < r.c.length) (hs : s.length ≤ 1000) (h : S w b bm bc m r) : Calls Tryd.prog 36 #[.pointer (some ⟨b, 0, none⟩), .int .i64 i, .string ⟨s.toArray⟩] w fun e w' => e = .returned (.tuple #[]) ∧ S w' b bm bc m (r.keep i s) ∧ Turn (blks b bm bc m) w w' := by
  have c0 := h.ptr
  have hset := set_at bm r.l i w h.map
  have e2 : setL r.l (i : Int) = r.l.set i true := by unfold setL; rw [if_pos (by omega)]; rfl
  rw [e2] at hset
  have HS := Lib.hid hset
  have HF := Lib.hid (fun v (q : Only bm w v) => And.intro ((Turn.only (K := [bm]) q (by simp)).obj h.block (by simp; exact h.ne1)) ((Turn.only (K := [bm]) q (by simp)).obj h.chunks (by simp; exact Ne.symm h.ne3)))
  have HP := Lib.hid (fun v (q : Only bm w v) (hm : M v bm (r.l.set i true)) => h.kept i s hi hs q hm)
  clear hset h e2
  generalize r.l.set i true = L at *
  go_enter Tryd.func36, Tryd.ntmps36
  go_wp2_with fail
  refine HS.out.mono ?_
  rintro e w1 ⟨rfl, m1, o1⟩
  obtain ⟨q1, q2⟩ := HF.out w1 o1
  have d2 : w1.cell? ⟨b, 2, none⟩ = some (.slice (some ⟨bc, 0, none⟩) r.c.length r.c.length) := cell_obj q1 rfl
  have f2 : w1.frozen? ⟨bc, i, none⟩ = false := by simp [World.frozen?, q2]
  have HQ := Lib.hid (HP.out w1 o1 m1)
  have HO := Lib.hid (show Turn (blks b bm bc m) w (w1.setCell ⟨bc, i, none⟩ (.string ⟨s.toArray⟩)) from (Turn.only o1 in_bm).trans (Turn.setCell w1 bc i _ in_bc))
  have c6 := cell_obj q2 (tc_get _ _ hi)
  clear HS HF HP q1 q2 m1 o1 c0
  generalize r.c.getD i [] = old at *
  generalize r.c.length = N at *
  go_wp2
  go_returns
  exact ⟨rfl, HQ.out, HO.out⟩
set_option maxRecDepth 100000 in
theorem vcount_at (e : Nat) (hd : r.d e < 9223372036854775807) (h : S w b bm bc m r) : Calls Tryd.prog 35 #[.pointer (some ⟨b, 0, none⟩), .int .i64 e] w fun e' w' => e' = .returned (.tuple #[]) ∧ ∃ m', S w' b bm bc m' (r.count e) ∧ Turn (blks b bm bc m) w w' ∧ (m' = m ∨ ∃ k, m' = some k ∧ w.heap.size ≤ k) := by
  have c4 := h.drops
  have f4 := h.free 4
  have hsum : ((r.d e + 1 : Nat) : Int) = ((r.d e : Nat) : Int) + 1 := by omega
  have hwr : wrap64 (((r.d e : Nat) : Int) + 1) = ((r.d e : Nat) : Int) + 1 := IntWalk.wrap64_in _ (by omega)
  clear hd
  have hmm := @run_makeMap Tryd.prog
  cases m with
  | none =>
    have hlt := h.lt
    have ks : (w.alloc (.map #[] 0)).heap.size = w.heap.size + 1 := by simp
    have hk := (Keep.refl w).alloc (.map #[] 0)
    have hS := (h.keep hk).setMap (MapC.made w) (by have := h.pos; omega) ⟨by omega, by have := h.ltm; omega, by have := h.ltc; omega⟩
    have hT : Turn (blks b bm bc none) w ((w.alloc (.map #[] 0)).setCell ⟨b, 4, none⟩ (.map (some w.heap.size))) := (Turn.keep _ hk).trans (Turn.setCell _ b 4 _ in_b)
    have hl := hS.cnt.look e
    have hq := eq_map_none
    have hm : MapC ((w.alloc (.map #[] 0)).setCell ⟨b, 4, none⟩ (.map (some w.heap.size))) w.heap.size r.d := by
      rcases hS.cnt with ⟨q, _⟩ | ⟨y, q1, q2⟩
      · cases q
      · cases q1; exact q2
    obtain ⟨w9, hu, m9, o9⟩ := hm.upd e (r.d e + 1)
    rw [hsum] at hu
    have hc := hS.drops
    have HR := Lib.hid (show ∃ m', S w9 b bm bc m' (r.count e) ∧ Turn (blks b bm bc none) w w9 ∧ (m' = none ∨ ∃ k, m' = some k ∧ w.heap.size ≤ k) from
      ⟨some w.heap.size, hS.counted e o9 m9, ⟨o9.os.trans hT.os, o9.tape.trans hT.tape, o9.output.trans hT.output, Nat.le_trans hT.size o9.size, fun k hk hb => (o9.block k (Nat.lt_of_lt_of_le hk hT.size) (Nat.ne_of_lt hk)).trans (hT.block k hk hb)⟩, .inr ⟨_, rfl, Nat.le_refl _⟩⟩)
    clear h hS hT hm m9 o9 hk
    generalize hW : (w.alloc (.map #[] 0)).setCell ⟨b, 4, none⟩ (.map (some w.heap.size)) = W at *
    clear hsum
    generalize r.d e = z at *
    go_enter Tryd.func35, Tryd.ntmps35
    go_wp2_with (rw [hW])
    go_returns
    exact ⟨rfl, HR.out⟩
  | some x =>
    have hm : MapC w x r.d := by
      rcases h.cnt with ⟨q, _⟩ | ⟨y, q1, q2⟩
      · cases q
      · cases q1; exact q2
    have hl := hm.look e
    have hq := eq_map_some x
    obtain ⟨w9, hu, m9, o9⟩ := hm.upd e (r.d e + 1)
    rw [hsum] at hu
    have HR := Lib.hid (show ∃ m', S w9 b bm bc m' (r.count e) ∧ Turn (blks b bm bc (some x)) w w9 ∧ (m' = some x ∨ ∃ k, m' = some k ∧ w.heap.size ≤ k) from ⟨some x, h.counted e o9 m9, Turn.only o9 (in_m rfl), .inl rfl⟩)
    clear h hm m9 o9
    clear hsum
    generalize r.d e = z at *
    go_enter Tryd.func35, Tryd.ntmps35
    go_wp2
    go_returns
    exact ⟨rfl, HR.out⟩
end
end Go.Proofs.YtifcibmpeolmdaaDoor

/- Proved: rules of the walk for a region that draws its order, calls what keeps memory, and stores a frame of its own; structs by literals. No condition. -/
namespace Go.Proofs.YtifcibmpeolmdaaDoor
open Go.RowKit

/-! ### The operations of a region that draws its order and stores -/
section
variable {P : Program} {ops : Array Oper} {C : Nat → World → Prop} {A : Oper → Bool} {Q : Act → Nat → Prop} {o : Oper} {rest : List Oper} {a : Act} {p : Nat}
theorem ph_build (hg : o.guard = none) (t : TypeId) (parts : Array (Nat × Operand)) (ho : o.op = .build t parts) (L : List (Nat × Value)) (hp : (parts.toList.map fun x => (x.1, a.eval x.2)) = L) (v : Value) (hr : ∀ w, (Instr.build t L.toArray).run P w = .ok v w)
    (h : wpPh P ops C A Q rest (a.put o.dst v) p) : wpPh P ops C A Q (o :: rest) a p := by
  refine ph_value hg v (fun w => ?_) h
  unfold execOp
  simp only [ho, Sem.run_bind, parts_list hp, hr, Result.andThen_ok, Sem.run_pure]
theorem ph_check {dst : Option Tmp} {x : Operand} {ty : TypeId} {pos : String} {after : Array Edge} {q : Addr} (hx : a.eval x = .pointer (some q))
    (h : wpPh P ops C A Q rest (a.put dst (.pointer (some q))) p) : wpPh P ops C A Q ({ dst := dst, op := .nilCheck x, type := ty, pos := pos, after := after, guard := none } :: rest) a p := by
  refine ph_value rfl _ (fun w => ?_) h
  unfold execOp
  simp only [hx]
  rfl
end

section
variable {P : Program} {ops : Array Oper} {C : Nat → World → Prop} {A : Oper → Bool} {Q : Act → Nat → Prop} {o : Oper} {rest : List Oper} {a : Act} {p : Nat}
/-- A call that stays in the phase. -/
theorem ph_call {f : FuncId} {args : Array Value} {v : Value} (hg : o.guard = none)
    (hc : ∀ q w, C q w → Calls P f args w fun e w' => e = .returned v ∧ C q w') (he : ∀ w, (execOp a.eval o).run P w = .ok (.enter f args) w)
    (h : wpPh P ops C A Q rest (a.put o.dst v) p) : wpPh P ops C A Q (o :: rest) a p := by
  refine .inl ⟨by simp [Region.wanted, hg], v, fun q w hq => ?_, h⟩
  unfold Oper.quietAt
  rw [he w]
  exact ⟨rfl, hc q w hq⟩
end
/-- Worlds that keep what was there; then such ones in which block g has turned to a frame. -/
def PhF (y : World) (g : Nat) (f : Fr) : Nat → World → Prop
  | 0, w => Keep y w
  | _, w => Turn [g] y w ∧ FAt w g f
instance (y : World) (g : Nat) (f : Fr) : Nonempty (PW (PhF y g f)) := ⟨⟨y, 0, Keep.refl y⟩⟩
theorem PhF.keep {y w w' : World} {g : Nat} {f : Fr} (q : Nat) (h : PhF y g f q w) (k : Keep w w') : PhF y g f q w' := by
  cases q with
  | zero => exact Keep.trans (show Keep y w from h) k
  | succ q =>
    have h : Turn [g] y w ∧ FAt w g f := h
    exact ⟨h.1.thenKeep k, h.2.keep k⟩
theorem PhF.turn {y w : World} {g : Nat} {f : Fr} (q : Nat) (h : PhF y g f q w) : Turn [g] y w := by
  cases q with
  | zero => exact Turn.keep _ (show Keep y w from h)
  | succ q => exact (show Turn [g] y w ∧ FAt w g f from h).1
/-- What is so in all of them. -/
theorem PhF.all {y : World} {g : Nat} {f : Fr} {X : World → Prop} (h : ∀ w, Turn [g] y w → X w) (u : PW (PhF y g f)) : X u.1 := by
  obtain ⟨w, q, hq⟩ := u
  exact h w (PhF.turn q hq)

/-! ### Structs by literals -/
theorem built_of {t : TypeId} {z : Value} {n : Nat} {L : List (Nat × Nat)} (hi0 : (Tryd.prog.info? t).map (fun i => (i.zero, i.size)) = some (some z, n))
    (hu : (Tryd.prog.underlying t).bind (fun d => match d with | .struct fs => fs.toList.mapM (fun f => (Tryd.prog.info? f.type).map fun i => (f.offset, i.size)) | _ => none) = some L) (parts : List (Nat × Value)) : Tryd.prog.built t parts = Instr.fill (L.toArray[·]?) z.cells parts := by
  obtain ⟨it, hi, hz⟩ : ∃ it, Tryd.prog.info? t = some it ∧ it.zero = some z := by
    cases h : Tryd.prog.info? t with
    | none => rw [h] at hi0; simp at hi0
    | some it => rw [h] at hi0; simp at hi0; exact ⟨it, rfl, hi0.1⟩
  cases h : Tryd.prog.underlying t with
  | none => rw [h] at hu; simp at hu
  | some d =>
    rw [h] at hu
    cases d <;> simp at hu
    rename_i fs
    exact built_struct (z := z) hi h hz (by simpa using hu)
end Go.Proofs.YtifcibmpeolmdaaDoor
