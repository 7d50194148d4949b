/- Proved: what the sender's send and due answer, and what they do to memory. Condition: the sender lies in memory (S); there were at most a million ticks. -/
import Derived.Test.YtcnaaoakcmdfkaaDoorSb
import Derived.Test.YtcnaaoakcmdfkaaDoorT
namespace Go.Proofs.YtcnaaoakcmdfkaaDoor
open Go.RowKit

theorem Turn.grown {K : List Nat} {u v w : World} {row : Option Nat} (h : Turn K u v) (hg : v.grownBy w row) (hrow : ∀ k, row = some k → u.heap.size ≤ k) : Turn K u w :=
  ⟨hg.os.trans h.os, hg.tape.trans h.tape, hg.output.trans h.output, Nat.le_trans h.size hg.size, fun k hk hn => (hg.block k (Nat.lt_of_lt_of_le hk h.size) (fun e => by have := hrow k e.symm; omega)).trans (h.block k hk hn)⟩
theorem Own.turn {α : Type} {t k B : Nat} {enc : α → List Value} {K : List Nat} {w w' : World} {v : Value} {l : List α} (h : Own t k enc B w v l) (q : Turn K w w') (hK : ∀ x ∈ K, x < B) : Own t k enc B w' v l := by
  refine ⟨h.1, ?_⟩
  rcases h.2 with h1 | ⟨g, cap, cur, h1, h2, h3, h4⟩
  · exact .inl h1
  · exact .inr ⟨g, cap, cur, h1, h2, q.obj h3 (fun hg => by have := hK g hg; omega), h4⟩
theorem Own.block {α : Type} {t k B : Nat} {enc : α → List Value} {w : World} {v : Value} {l : List α} (h : Own t k enc B w v l) : ∀ g, v.ownBlock = some g → B ≤ g ∧ g < w.heap.size := fun g hg => by
  rcases h.2 with ⟨h1, _⟩ | ⟨g', cap, cur, h1, h2, h3, _⟩
  · rw [h1] at hg; simp [Value.ownBlock] at hg
  · rw [h1] at hg
    simp [Value.ownBlock] at hg
    subst hg
    exact ⟨h2, block_lt h3⟩

/-! ### The operations of a region that draws its order and stores -/
section
variable {P : Program} {ops : Array Oper} {C : Nat → World → Prop} {A : Oper → Bool} {Q : Act → Nat → Prop} {o : Oper} {rest : List Oper} {a : Act} {p : Nat}
theorem ph_build (hg : o.guard = none) (t : TypeId) (parts : Array (Nat × Operand)) (ho : o.op = .build t parts) (L : List (Nat × Value)) (hp : (parts.toList.map fun x => (x.1, a.eval x.2)) = L) (v : Value) (hr : ∀ w, (Instr.build t L.toArray).run P w = .ok v w)
    (h : wpPh P ops C A Q rest (a.put o.dst v) p) : wpPh P ops C A Q (o :: rest) a p := by
  refine ph_value hg v (fun w => ?_) h
  unfold execOp
  simp only [ho, Sem.run_bind, parts_list hp, hr, Result.andThen_ok, Sem.run_pure]
theorem ph_check {dst : Option Tmp} {x : Operand} {ty : TypeId} {pos : String} {after : Array Edge} {q : Addr} (hx : a.eval x = .pointer (some q))
    (h : wpPh P ops C A Q rest (a.put dst (.pointer (some q))) p) : wpPh P ops C A Q ({ dst := dst, op := .nilCheck x, type := ty, pos := pos, after := after, guard := none } :: rest) a p := by
  refine ph_value rfl _ (fun w => ?_) h
  unfold execOp
  simp only [hx]
  rfl
end
/-- Two worlds, one behind the other. -/
def Ph2 (a b : World) : Nat → World → Prop
  | 0, w => w = a
  | _, w => w = b
instance (a b : World) : Nonempty (PW (Ph2 a b)) := ⟨⟨a, 0, rfl⟩⟩
theorem Ph2.all {a b : World} {X : World → Prop} (ha : X a) (hb : X b) (u : PW (Ph2 a b)) : X u.1 := by
  obtain ⟨w, q, hq⟩ := u
  cases q with
  | zero => obtain rfl : w = a := hq; exact ha
  | succ q => obtain rfl : w = b := hq; exact hb

section
variable {b bm bc : Nat} {s : Sd} {w : World}
set_option maxRecDepth 100000 in
set_option maxHeartbeats 1000000 in
theorem send_at (h : S w b bm bc s) (i : Nat) (hi : i < s.ch.length) (ho : s.over i = false) : Calls Tryd.prog 42 #[.pointer (some ⟨b, 0, none⟩), .int .i64 i] w fun e w' => e = .returned (.agg (fc (s.frame i))) ∧ S w' b bm bc (s.put i) ∧ Turn [bc] w w' := by
  obtain ⟨hz, _⟩ := zero_of_info infoF
  obtain ⟨n, hn⟩ : ∃ n, n = 6 := ⟨6, rfl⟩
  have hsz : ∀ w, (Go.sizeOf 34).run Tryd.prog w = .ok n w := fun w => by rw [hn]; exact Tryd.sizeOf34 w
  have hn0 : ¬ n = 0 := by omega
  have hn6 := Lib.hid hn
  clear hn
  have k1 : Keep w (w.alloc (.cells (fc zeroF) 34)) := (Keep.refl w).alloc _
  have s1 := h.keep k1
  have hblk := heap_alloc_last w (.cells (fc zeroF) 34)
  have hsize : (w.alloc (.cells (fc zeroF) 34)).heap.size = w.heap.size + 1 := by simp
  have hlt := h.ltc
  have hlb := h.lt
  have hne2 := h.ne2
  have ht8 : (s.at i).tries < 8 := by unfold Sd.over at ho; rw [decide_eq_false_iff_not] at ho; omega
  generalize hv1 : w.alloc (.cells (fc zeroF) 34) = v1 at *
  have c3 := s1.list
  have c31 := s1.tries i hi
  have f31 := s1.freec (i * 3 + 1)
  have c32 := s1.last i hi
  have f33 := s1.freec (i * 3 + 2)
  have t2 : Turn [bc] v1 (v1.setCell ⟨bc, i * 3 + 1, none⟩ (.int .i64 ((s.at i).tries + 1 : Nat))) := Turn.setCell v1 bc _ _ (by simp)
  have b2 := t2.obj s1.block (by simp; exact hne2)
  have bc2 := block_set s1.chunks (i * 3 + 1) (.int .i64 ((s.at i).tries + 1 : Nat))
  have s3 := s1.setPut i hi ho
  have t3 : Turn [bc] v1 ((v1.setCell ⟨bc, i * 3 + 1, none⟩ (.int .i64 ((s.at i).tries + 1 : Nat))).setCell ⟨bc, i * 3 + 2, none⟩ (.int .i64 (s.now : Nat))) := t2.trans (Turn.setCell _ bc _ _ (by simp))
  have hf3 : FAt ((v1.setCell ⟨bc, i * 3 + 1, none⟩ (.int .i64 ((s.at i).tries + 1 : Nat))).setCell ⟨bc, i * 3 + 2, none⟩ (.int .i64 (s.now : Nat))) w.heap.size zeroF := t3.obj hblk (by simp; omega)
  generalize hv2 : v1.setCell ⟨bc, i * 3 + 1, none⟩ (.int .i64 ((s.at i).tries + 1 : Nat)) = v2 at *
  have c24 : v2.cell? ⟨b, 4, none⟩ = some (.int .i64 (s.now : Nat)) := cell_obj b2 rfl
  have f32 : v2.frozen? ⟨bc, i * 3 + 2, none⟩ = false := by simp [World.frozen?, bc2]
  generalize hv3 : v2.setCell ⟨bc, i * 3 + 2, none⟩ (.int .i64 (s.now : Nat)) = v3 at *
  have s4 : S v3.drew b bm bc (s.put i) := s3.keep (Keep.refl v3).drew
  have hf4 : FAt v3.drew w.heap.size zeroF := hf3.keep (Keep.refl v3).drew
  have t4 : Turn [bc] v1 v3.drew := t3.drew
  generalize hy : v3.drew = y at *
  have hst := hf4.store (s.frame i)
  have hfy := hf4.put (s.frame i)
  have hl2 := hfy.whole hn6.out
  have t5 : Turn [w.heap.size] y (y.setRow w.heap.size (fc (s.frame i))) := Turn.only ⟨rfl, rfl, rfl, by simp [World.setRow], fun k _ hk => by simp only [World.setRow, Array.getElem?_modify]; rw [if_neg (fun e => hk e.symm)]⟩ (by simp)
  have s5 : S (y.setRow w.heap.size (fc (s.frame i))) b bm bc (s.put i) := s4.turn t5 (by simp; have := h.map.tab.pos; omega) (by simp; omega) (by simp; have := h.map.lt; omega) (by simp; omega)
  have hend : Turn [bc] w (y.setRow w.heap.size (fc (s.frame i))) := by
    refine ⟨(t5.os.trans t4.os).trans k1.1, (t5.tape.trans t4.tape).trans k1.2, (t5.output.trans t4.output).trans k1.3, Nat.le_trans k1.size (Nat.le_trans t4.size t5.size), fun k hk hn => ?_⟩
    have hs4 := t4.size
    rw [t5.block k (by omega) (by simp; omega), t4.block k (by omega) hn, k1.block k hk]
  have SE := Lib.hid s5
  have TE := Lib.hid hend
  have HB := Lib.hid (fun w => build_frame 1 s.ses s.ep i s.ch.length (s.at i).data w)
  have hdata : ((s.put i).at i).data = (s.at i).data := put_data s i i hi
  have hi' : i < (s.put i).ch.length := by rw [(put_ses s i).2.2.2.2.2]; exact hi
  have hS : ∀ u : PW (Ph2 y (y.setRow w.heap.size (fc (s.frame i)))), S u.1 b bm bc (s.put i) := Ph2.all (X := fun v => S v b bm bc (s.put i)) s4 s5
  have a1 : ∀ u : PW (Ph2 y (y.setRow w.heap.size (fc (s.frame i)))), u.1.cell? ⟨b, 1, none⟩ = some (.int .i64 s.ses) := fun u => (hS u).ses
  have a2 : ∀ u : PW (Ph2 y (y.setRow w.heap.size (fc (s.frame i)))), u.1.cell? ⟨b, 2, none⟩ = some (.int .i64 s.ep) := fun u => (hS u).ep
  have a3 : ∀ u : PW (Ph2 y (y.setRow w.heap.size (fc (s.frame i)))), u.1.cell? ⟨b, 3, none⟩ = some (.slice (some ⟨bc, 0, none⟩) s.ch.length s.ch.length) := fun u => by
    have e := (put_ses s i).2.2.2.2.2
    rw [(hS u).list, e]
  have a4 : ∀ u : PW (Ph2 y (y.setRow w.heap.size (fc (s.frame i)))), u.1.cell? ⟨bc, i * 3, none⟩ = some (.string ⟨(s.at i).data.toArray⟩) := fun u => by
    rw [(hS u).data i hi', hdata]
  have HF : Hid (s.frame i = ⟨1, s.ses, s.ep, i, s.ch.length, (s.at i).data⟩) := Lib.hid rfl
  rw [← HF.out] at HB
  have hzs : (fc (s.frame i)).size = n := by rw [hn6.out]; rfl
  have HST := Lib.hid hst
  have HL2 := Lib.hid hl2
  clear hS h s1 k1 hblk hsize hlt hlb hne2 t2 b2 bc2 s3 t3 hf3 s4 hf4 t4 hfy t5 s5 hend hdata hi' ho hst hl2
  subst hv3 hv2 hv1
  have HY := Lib.hid hy
  clear hy
  generalize (s.at i).tries = T at *
  generalize (s.at i).last = T2 at *
  generalize (s.at i).data = D at *
  generalize s.ch.length = N at *
  generalize s.frame i = f at *
  generalize fc zeroF = Z at *
  rw [show ((T + 1 : Nat) : Int) = (T : Int) + 1 from rfl] at c24 f32 HY
  go_enter Tryd.func42, Tryd.ntmps42
  go_wp2_with fail
  refine wp_region_ph (A := isMade) (C := Ph2 y (y.setRow w.heap.size (fc f))) (by kernel_rfl) (by kernel_rfl) (by kernel_rfl) HY.out ?_
  repeat (first | (refine ph_quiet (by rfl) ?_; (first | go_big_quiet_step (fail) | quiet_step (fail)); refine wpQuiet_nil ?_) | (refine ph_check rfl ?_; simp only [Act.put, List.setIfInBounds_toArray, List.set_cons_zero, List.set_cons_succ]))
  refine ph_build rfl 34 _ rfl _ rfl (.agg (fc f)) HB.out ?_
  simp only [Act.put, List.setIfInBounds_toArray, List.set_cons_zero, List.set_cons_succ]
  refine ph_write rfl rfl (fun w1 => w1.setRow w.heap.size (fc f)) (fun w1 hw => ?_) ?_
  · obtain rfl : w1 = y := hw
    refine ⟨?_, rfl⟩
    have hst := HST.out
    generalize fc f = C at *
    go_simp
  simp only [Act.put]
  refine ph_nil ?_
  intro w9 h9
  obtain rfl : w9 = y.setRow w.heap.size (fc f) := h9
  have hl2 := HL2.out
  clear c3 c31 c32 f31 f32 f33 c24 a1 a2 a3 a4
  go_wp2
  refine bodyPost_ret (v := .agg (fc f)) ?_ rfl ⟨rfl, SE.out, TE.out⟩
  simp [results, Tryd.results42, go_sem, hsz, hl2]
end
end Go.Proofs.YtcnaaoakcmdfkaaDoor
