/- Proved: stories in memory, and a map from prefixes to them: what is looked up, what is put in; what story's is and effect, and incr's stories, answer. Condition: lists are short enough for memory. -/
import Derived.Test.YtgkgpdlakamgiaaGreatIa
import Derived.Deep.WholeRow
import Derived.Maps.OwnSet
import Derived.Maps.RangeRun
import Derived.WideKeyRuns
import Derived.MapKept
namespace Go.Proofs.YtgkgpdlakamgiaaGreat
open Go.RowKit

/-! ### A story in memory -/
def sl (s : Sy) : List Value := .bool s.was :: il s.last
def sc (s : Sy) : Array Value := (sl s).toArray
theorem sl_len (s : Sy) : (sl s).length = 22 := by rw [sl, List.length_cons, il_len]
theorem sc_size (s : Sy) : (sc s).size = 22 := by simp [sc, sl_len]
theorem sl_one (s : Sy) : ∀ v ∈ sl s, v.oneCell' = true := by
  intro v hv
  rw [sl] at hv
  rcases List.mem_cons.1 hv with rfl | h
  · rfl
  · exact il_one _ v h
theorem sc_one (s : Sy) : ∀ v ∈ (sc s).toList, v.oneCell' = true := by
  intro v hv
  exact sl_one s v (by simpa [sc] using hv)
def zeroY : Sy := ⟨false, zeroI⟩
theorem info58b : (Tryz.prog.info? 102).map (fun i => (i.zero, i.size)) = some (some (.agg (sc zeroY)), 22) := by kernel_rfl
def SAt (w : World) (b : Nat) (s : Sy) : Prop := w.heap[b]? = some (.cells (sc s) 102 (0, 0))
theorem SAt.keep {w w' : World} {b : Nat} {s : Sy} (h : SAt w b s) (k : Keep w w') : SAt w' b s := k.obj h
theorem SAt.new (w : World) (s : Sy) : SAt (w.alloc (.cells (sc s) 102)) w.heap.size s := heap_alloc_last w _
theorem SAt.was {w : World} {b : Nat} {s : Sy} (h : SAt w b s) : w.cell? ⟨b, 0, none⟩ = some (.bool s.was) := cell_obj h rfl
theorem SAt.kind {w : World} {b : Nat} {s : Sy} (h : SAt w b s) : w.cell? ⟨b, 1, none⟩ = some (.int .i64 s.last.kind) := cell_obj h rfl
theorem SAt.free {w : World} {b : Nat} {s : Sy} (h : SAt w b s) (i : Nat) : w.frozen? ⟨b, i, none⟩ = false := by
  unfold SAt at h
  simp [World.frozen?, h]
theorem SAt.whole {w : World} {b n : Nat} {s : Sy} (h : SAt w b s) (hn : n = 22) : (loadCellsFrom ⟨b, 0, none⟩ 0 n #[]).run Tryz.prog w = .ok (sc s) w := load_block n (by rw [sc_size, hn]) h
theorem SAt.last {w : World} {b n : Nat} {s : Sy} (h : SAt w b s) (hn : n = 21) : (loadCellsFrom ⟨b, 1, none⟩ 0 n #[]).run Tryz.prog w = .ok (ic s.last) w := by
  refine load_part (P := Tryz.prog) (o := 1) (n := n) (il s.last) (by rw [il_len, hn]) h (fun j v hv => ?_)
  rw [Nat.add_comm]
  simpa [sc, sl] using hv
theorem SAt.route {w : World} {b n : Nat} {s : Sy} (h : SAt w b s) (hn : n = 20) : (loadCellsFrom ⟨b, 2, none⟩ 0 n #[]).run Tryz.prog w = .ok (rc s.last.route) w := by
  refine load_part (P := Tryz.prog) (o := 2) (n := n) (rl s.last.route) (by rw [rl_len, hn]) h (fun j v hv => ?_)
  rw [Nat.add_comm]
  simpa [sc, sl, il] using hv
theorem SAt.store {w : World} {b : Nat} {z : Sy} (h : SAt w b z) (s : Sy) : (storeCells ⟨b, 0, none⟩ (sc s).toList).run Tryz.prog w = .ok () (w.setRow b (sc s)) := by
  have hsc := run_storeCells_from (P := Tryz.prog) b 102 (sc s).toList 0 (sc z) w h (by rw [sc_size z]; simp [sc_size s]) (sc_one s)
  rw [List.take_zero, List.nil_append, Array.toArray_toList] at hsc
  exact hsc
theorem SAt.put {w : World} {b : Nat} {z : Sy} (h : SAt w b z) (s : Sy) : SAt (w.setRow b (sc s)) b s := block_row h _
theorem SAt.setWas {w : World} {b : Nat} {s : Sy} (h : SAt w b s) (v : Bool) : SAt (w.setCell ⟨b, 0, none⟩ (.bool v)) b ⟨v, s.last⟩ := by
  have := block_set h 0 (.bool v)
  unfold SAt
  rw [this]
  simp [sc, sl]
theorem SAt.storeLast {w : World} {b : Nat} {s : Sy} (h : SAt w b s) (i : Ic) : (storeCells ⟨b, 1, none⟩ (ic i).toList).run Tryz.prog w = .ok () (w.setRow b (sc ⟨s.was, i⟩)) := by
  have hsc := run_storeCells_at (P := Tryz.prog) b 1 102 (ic i).toList 0 (sc s) w h (by rw [sc_size]; simp [ic_size]) (ic_one i)
  have e : ((sc s).toList.take (1 + 0) ++ (ic i).toList ++ (sc s).toList.drop (1 + 0 + (ic i).toList.length)).toArray = sc ⟨s.was, i⟩ := by
    have h1 : (ic i).toList.length = 21 := by simp [ic_size]
    rw [h1, List.drop_of_length_le (by simp [sc, sl_len])]
    simp [sc, sl, ic]
  rw [e] at hsc
  exact hsc

/-! ### The map -/
set_option maxRecDepth 100000 in
theorem check_key (em : Bool) (p : Px) (hp : L16 p) (w : World) : (Instr.checkKey em 10000 54 (.agg (pc p))).run Tryz.prog w = .ok () w := by
  obtain ⟨s, l, n⟩ := p
  obtain ⟨c0, c1, c2, c3, c4, c5, c6, c7, c8, c9, c10, c11, c12, c13, c14, c15, rfl⟩ := list16 l hp
  kernel_rfl
theorem bits_self (p : Px) : Instr.sameBits 10000 (.agg (pc p)) (.agg (pc p)) = true := by
  unfold Instr.sameBits
  simp only [beq_self_eq_true, Bool.true_and, List.all_eq_true]
  intro x hx
  obtain ⟨a, b⟩ := x
  have hz : ∀ (L : List Value) (x : Value × Value), x ∈ L.zip L → x.1 = x.2 ∧ x.1 ∈ L := by
    intro L
    induction L with
    | nil => simp
    | cons y L ih =>
      intro x hx
      rw [List.zip_cons_cons] at hx
      rcases List.mem_cons.1 hx with rfl | h
      · exact ⟨rfl, by simp⟩
      · exact ⟨(ih x h).1, by simp [(ih x h).2]⟩
  obtain ⟨h1, h2⟩ := hz _ _ hx
  simp only at h1 h2
  subst h1
  simp only [pc, List.mem_cons, List.mem_append, List.mem_map, List.not_mem_nil, or_false] at h2
  rcases h2 with rfl | ⟨c, _, rfl⟩ | rfl
  · simp [Instr.sameBits]
  · simp [bv, Instr.sameBits]
  · simp [Instr.sameBits]
def kv (e : MapEntry) : Value × Value := (e.key, e.val)
def evS (s : Sy) : Value × Value := (.agg (pc s.to), .agg (sc s))
/-- Block b is a map of these, each born at its place. -/
structure MapS (w : World) (b : Nat) (W : List Sy) (es : Array MapEntry) : Prop where
  block : w.heap[b]? = some (.map es W.length)
  vals : es.toList.map kv = W.map evS
  born : es.toList.map (·.born) = List.range W.length
def askS : List Sy → Px → Nat → Option (Nat × Value)
  | [], _, _ => none
  | s :: W, p, i => if p = s.to then some (i, .agg (sc s)) else askS W p (i + 1)
theorem Sy.ok (s : Sy) : L16 s.to := s.last.route.ok
theorem ask (p : Px) (hp : L16 p) (w : World) : ∀ (W : List Sy) (es : List MapEntry) (i : Nat), es.map kv = W.map evS → (Instr.findAsking 54 (.agg (pc p)) es i).run Tryz.prog w = .ok (askS W p i) w := by
  intro W
  induction W with
  | nil =>
    intro es i h
    obtain rfl : es = [] := by simpa using h
    simp [Instr.findAsking, askS]
  | cons s W ih =>
    intro es i h
    cases es with
    | nil => simp at h
    | cons e es =>
      simp only [List.map_cons, List.cons.injEq] at h
      obtain ⟨h1, h2⟩ := h
      simp only [kv, evS, Prod.mk.injEq] at h1
      have he : (Op.equal 54 (.agg (pc p)) (.agg (pc s.to))).run Tryz.prog w = .ok (decide (p = s.to)) w := eq_pcd 9996 p s.to hp s.ok w
      have hi := ih es (i + 1) h2
      unfold Instr.findAsking askS
      simp only [Sem.run_bind, h1.1, he, Result.andThen_ok]
      by_cases hpr : p = s.to
      · simp [hpr, h1.2]
      · simp [hpr, hi]
theorem found {p : Px} (hp : L16 p) {w : World} {W : List Sy} {es : List MapEntry} (h : es.map kv = W.map evS) : (Instr.findKey 54 (.agg (pc p)) es).run Tryz.prog w = .ok (askS W p 0) w := by
  rw [run_findKey_eq (P := Tryz.prog) w (by kernel_rfl)]
  exact ask p hp w W es 0 h
theorem askS_find (W : List Sy) (p : Px) (i : Nat) : (∀ s, findS W p = some s → ∃ j, askS W p i = some (j, .agg (sc s))) ∧ (findS W p = none → askS W p i = none) := by
  induction W generalizing i with
  | nil => exact ⟨fun s h => by simp [findS] at h, fun _ => rfl⟩
  | cons y W ih =>
    by_cases e : p = y.to
    · have hf : findS (y :: W) p = some y := by unfold findS; simp [e]
      refine ⟨fun s h => ?_, fun h => by rw [hf] at h; simp at h⟩
      rw [hf] at h
      simp only [Option.some.injEq] at h
      subst h
      exact ⟨i, by unfold askS; rw [if_pos e]⟩
    · have hf : findS (y :: W) p = findS W p := by unfold findS; simp [e]
      rw [hf]
      unfold askS
      rw [if_neg e]
      exact ih (i + 1)
theorem under53 : Tryz.prog.underlying 97 = some (.map 54 102) := by kernel_rfl
theorem lookS {w : World} {b : Nat} {W : List Sy} {es : Array MapEntry} (h : MapS w b W es) {p : Px} (hp : L16 p) : (Instr.lookup 97 (.map (some b)) (.agg (pc p)) true).run Tryz.prog w = .ok (.tuple #[.agg (sc ((findS W p).getD zeroY)), .bool (findS W p).isSome]) w := by
  have hf := found (w := w) hp h.vals
  have hz := (zero_of_info (P := Tryz.prog) info58b).1 w
  have hk := fun em => check_key em p hp w
  unfold Instr.lookup
  simp only [Sem.run_bind, run_underlying under53, MapKept.run_getObj_map h.block, hk, hf, Result.andThen_ok, Sem.run_pure]
  cases hh : findS W p
  · have h1 := (askS_find W p 0).2 hh
    simp [h1, hz]
  · rename_i s
    obtain ⟨j, h1⟩ := (askS_find W p 0).1 s hh
    simp [h1]
theorem askS_set (W : List Sy) (r : Sy) (i : Nat) : (askS W r.to i = none ∧ setS W r = W ++ [r]) ∨ ∃ j v, askS W r.to i = some (i + j, v) ∧ j < W.length ∧ setS W r = W.set j r ∧ (W[j]?).map (·.to) = some r.to := by
  induction W generalizing i with
  | nil => exact .inl ⟨rfl, rfl⟩
  | cons y W ih =>
    by_cases e : r.to = y.to
    · refine .inr ⟨0, .agg (sc y), ?_, by simp, ?_, by simp [e]⟩
      · unfold askS
        simp [e]
      · unfold setS
        simp [e]
    · rcases ih (i + 1) with ⟨h1, h2⟩ | ⟨j, v, h1, h2, h3, h4⟩
      · refine .inl ⟨?_, ?_⟩
        · unfold askS
          simp [e, h1]
        · unfold setS
          simp [e, h2]
      · refine .inr ⟨j + 1, v, ?_, by simp; omega, ?_, by simpa using h4⟩
        · unfold askS
          rw [if_neg e, h1]
          congr 2
          omega
        · unfold setS
          rw [if_neg e, h3]
          rfl
theorem Only.setObj {b : Nat} (w : World) (o : Obj) : Only b w { w with heap := w.heap.setIfInBounds b o } :=
  ⟨rfl, rfl, rfl, by simp, fun k _ hb => by
    simp only [Array.getElem?_setIfInBounds]
    rw [if_neg (Ne.symm hb)]⟩
theorem updS {w : World} {b : Nat} {W : List Sy} {es : Array MapEntry} (h : MapS w b W es) (r : Sy) : ∃ w' es', (Instr.mapUpdate 97 (.map (some b)) (.agg (pc r.to)) (.agg (sc r))).run Tryz.prog w = .ok () w' ∧ MapS w' b (setS W r) es' ∧ Only b w w' := by
  obtain ⟨hb, he, hborn⟩ := h
  have hf := found (w := w) r.ok he
  have hk := fun em => check_key em r.to r.ok w
  have hlt := block_lt hb
  have hlen : es.toList.length = W.length := by
    have := congrArg List.length he
    simpa using this
  rcases askS_set W r 0 with ⟨h1, h2⟩ | ⟨j, v, h1, h2, h3, h4⟩
  · refine ⟨{ w with heap := w.heap.setIfInBounds b (.map (es.push { key := .agg (pc r.to), val := .agg (sc r), born := W.length }) (W.length + 1)) }, es.push { key := .agg (pc r.to), val := .agg (sc r), born := W.length }, ?_, ⟨?_, ?_, ?_⟩, Only.setObj (b := b) w _⟩
    · unfold Instr.mapUpdate
      simp only [Sem.run_bind, run_underlying under53, MapKept.run_getObj_map hb, hk, hf, h1, Result.andThen_ok]
      exact MapKept.run_setObj_map _ hb
    · rw [h2]
      simp [hlt]
    · rw [h2, List.map_append, ← he]
      simp [kv, evS]
    · rw [h2, List.length_append]
      simp only [Array.toList_push, List.map_append, hborn, List.map_cons, List.map_nil, List.length_cons, List.length_nil, Nat.zero_add]
      rw [List.range_succ]
  · rw [Nat.zero_add] at h1
    obtain ⟨e0, he0⟩ : ∃ e0, es[j]? = some e0 := ⟨_, Array.getElem?_eq_getElem (by rw [← Array.length_toList, hlen]; exact h2)⟩
    have hkey : e0.key = .agg (pc r.to) := by
      have h5 : (es.toList.map kv)[j]? = some (kv e0) := by simp [he0]
      rw [he, List.getElem?_map] at h5
      cases hw : W[j]? with
      | none => rw [hw] at h4; simp at h4
      | some y =>
        rw [hw] at h4 h5
        simp at h4 h5
        have := congrArg Prod.fst h5
        simp only [evS, kv] at this
        rw [← this, h4]
    have hst : (Instr.keyThatStays (((es[j]?).map (·.key)).getD (.agg (pc r.to))) (.agg (pc r.to))).run Tryz.prog w = .ok (.agg (pc r.to)) w := by
      unfold Instr.keyThatStays
      rw [he0]
      simp [hkey, bits_self]
    refine ⟨{ w with heap := w.heap.setIfInBounds b (.map (es.modify j fun e => { e with key := .agg (pc r.to), val := .agg (sc r) }) W.length) }, es.modify j fun e => { e with key := .agg (pc r.to), val := .agg (sc r) }, ?_, ⟨?_, ?_, ?_⟩, Only.setObj (b := b) w _⟩
    · unfold Instr.mapUpdate
      simp only [Sem.run_bind, run_underlying under53, MapKept.run_getObj_map hb, hk, hf, h1, Result.andThen_ok, hst]
      exact MapKept.run_setObj_map _ hb
    · rw [h3, List.length_set]
      simp [hlt]
    · rw [h3, List.map_set, ← he]
      apply List.ext_getElem?
      intro k
      simp only [Array.toList_modify, List.getElem?_map, List.getElem?_modify, List.getElem?_set, List.length_map]
      by_cases e : j = k
      · subst e
        have hj : j < es.toList.length := by omega
        simp only [if_pos hj]
        rw [List.getElem?_eq_getElem hj]
        simp [kv, evS]
      · simp [e]
    · rw [h3, List.length_set, ← hborn]
      apply List.ext_getElem?
      intro k
      simp only [Array.toList_modify, List.getElem?_map, List.getElem?_modify]
      by_cases e : j = k
      · subst e
        have hj : j < es.toList.length := by omega
        rw [List.getElem?_eq_getElem hj]
        simp
      · simp [e]
theorem MapS.keep {w w' : World} {b : Nat} {W : List Sy} {es : Array MapEntry} (h : MapS w b W es) (k : Keep w w') : MapS w' b W es := ⟨k.obj h.block, h.vals, h.born⟩
theorem MapS.made (w : World) : MapS (w.alloc (.map #[] 0)) w.heap.size [] #[] := ⟨heap_alloc_last w _, rfl, rfl⟩

/-! ### is, effect -/
set_option maxRecDepth 100000 in
theorem iis (s : Sy) : GivesK Tryz.prog 80 #[.agg (sc s)] (.bool s.is) := by
  intro w
  have hA := SAt.new w s
  have hk := hA.kind
  have HS := Lib.hid (show Keep w (w.alloc (.cells (sc s) 102)) from (Keep.refl w).alloc _)
  have HD : Hid (s.is = (s.last.kind != 3)) := by
    show s.is = _
    unfold Sy.is
    rw [Bool.eq_iff_iff]
    simp
  clear hA
  generalize s.is = z at *
  generalize s.last.kind = k at *
  generalize sc s = S at *
  go_enter Tryz.func80, Tryz.ntmps80
  go_wp2
  go_ret
  exact ⟨by rw [HD.out]; rfl, HS.out⟩
set_option maxRecDepth 100000 in
set_option maxHeartbeats 1000000 in
theorem ieffect (s : Sy) : GivesK Tryz.prog 48 #[.agg (sc s)] (.tuple #[.agg (ic ((effS s).getD zeroI)), .bool (effS s).isSome]) := by
  intro w
  obtain ⟨hz, hi⟩ := zero_of_info info43b
  obtain ⟨n, hn⟩ : ∃ n, n = 21 := ⟨21, rfl⟩
  have hsz : ∀ w, (Go.sizeOf 59).run Tryz.prog w = .ok n w := fun w => by rw [hn]; exact Tryz.sizeOf59 w
  have hn0 : ¬ n = 0 := by omega
  have hrn : ∀ i : Ic, (ic i).size = n := fun i => by rw [hn]; exact ic_size i
  obtain ⟨n2, hn2⟩ : ∃ n, n = 20 := ⟨20, rfl⟩
  have hsz2 : ∀ w, (Go.sizeOf 57).run Tryz.prog w = .ok n2 w := fun w => by rw [hn2]; exact Tryz.sizeOf57 w
  have hn20 : ¬ n2 = 0 := by omega
  obtain ⟨n3, hn3⟩ : ∃ n, n = 22 := ⟨22, rfl⟩
  have hsz3 : ∀ w, (Go.sizeOf 102).run Tryz.prog w = .ok n3 w := fun w => by rw [hn3]; exact Tryz.sizeOf102 w
  have hn30 : ¬ n3 = 0 := by omega
  have HN := Lib.hid hn
  have HN2 := Lib.hid hn2
  have HN3 := Lib.hid hn3
  have HA := Lib.hid (show SAt ((w.alloc (.cells (sc s) 102)).alloc (.cells (ic zeroI) 59)) w.heap.size s from alloc_old (SAt.new w s) _)
  have HB := Lib.hid (show IAt ((w.alloc (.cells (sc s) 102)).alloc (.cells (ic zeroI) 59)) (w.heap.size + 1) zeroI from by
    have := IAt.new (w.alloc (.cells (sc s) 102)) zeroI
    simpa using this)
  have HK := Lib.hid (show Keep w ((w.alloc (.cells (sc s) 102)).alloc (.cells (ic zeroI) 59)) from ((Keep.refl w).alloc _).alloc _)
  have HIs := Lib.hid (iis s)
  have HBZ := Lib.hid (show ∀ w, (Instr.build 59 #[]).run Tryz.prog w = .ok (.agg (ic zeroI)) w from fun w => by
    refine run_build w 59 _ _ ?_
    rw [built43]
    rfl)
  have HB2 := Lib.hid (fun w => build_inc 2 s.last.route w)
  have HB1 := Lib.hid (fun w => build_inc 1 s.last.route w)
  have hw0 := HA.out.was
  have h1 := HA.out.whole HN3.out
  clear hn hn2 hn3
  unfold effS
  cases hwas : s.was
  · rw [hwas] at hw0
    cases his : s.is
    · rw [his] at HIs
      go_enter Tryz.func48, Tryz.ntmps48
      go_wp2_with fail
      refine (HIs.out _).mono ?_
      rintro e w1 ⟨rfl, b1⟩
      have HB' := Lib.hid (HB.out.keep b1)
      have hst := HB'.out.store zeroI
      have hld := (HB'.out.put zeroI).whole HN.out
      have HK' := Lib.hid ((HK.out.trans b1).setRow (w.heap.size + 1) (ic zeroI) (by omega))
      clear b1 h1 hw0
      go_wp2_with (refine at_build [] rfl _ (HBZ.out _) ?_)
      refine bodyPost_ret (v := .tuple #[.agg (ic zeroI), .bool false]) ?_ rfl ⟨rfl, HK'.out⟩
      simp [results, Tryz.results48, go_sem, hsz, hld]
    · rw [his] at HIs
      go_enter Tryz.func48, Tryz.ntmps48
      go_wp2_with fail
      refine (HIs.out _).mono ?_
      rintro e w1 ⟨rfl, b1⟩
      have HB' := Lib.hid (HB.out.keep b1)
      have hrt := (HA.out.keep b1).route HN2.out
      have hst := HB'.out.store ⟨1, s.last.route⟩
      have hld := (HB'.out.put ⟨1, s.last.route⟩).whole HN.out
      have HK' := Lib.hid ((HK.out.trans b1).setRow (w.heap.size + 1) (ic ⟨1, s.last.route⟩) (by omega))
      clear b1 h1 hw0
      go_wp2_with (refine at_build [(0, .int .i64 1), (1, .agg (rc s.last.route))] rfl _ (HB1.out _) ?_)
      refine bodyPost_ret (v := .tuple #[.agg (ic ⟨1, s.last.route⟩), .bool true]) ?_ rfl ⟨rfl, HK'.out⟩
      simp [results, Tryz.results48, go_sem, hsz, hld]
  · rw [hwas] at hw0
    cases his : s.is
    · rw [his] at HIs
      go_enter Tryz.func48, Tryz.ntmps48
      go_wp2_with fail
      refine (HIs.out _).mono ?_
      rintro e w1 ⟨rfl, b1⟩
      have HB' := Lib.hid (HB.out.keep b1)
      have hw1 := (HA.out.keep b1).was
      rw [hwas] at hw1
      have hla := (HA.out.keep b1).last HN.out
      have hst := HB'.out.store s.last
      have hld := (HB'.out.put s.last).whole HN.out
      have HK' := Lib.hid ((HK.out.trans b1).setRow (w.heap.size + 1) (ic s.last) (by omega))
      clear b1 h1 hw0
      go_wp2
      refine bodyPost_ret (v := .tuple #[.agg (ic s.last), .bool true]) ?_ rfl ⟨rfl, HK'.out⟩
      simp [results, Tryz.results48, go_sem, hsz, hld]
    · rw [his] at HIs
      go_enter Tryz.func48, Tryz.ntmps48
      go_wp2_with fail
      refine (HIs.out _).mono ?_
      rintro e w1 ⟨rfl, b1⟩
      have HB' := Lib.hid (HB.out.keep b1)
      have hrt := (HA.out.keep b1).route HN2.out
      have hst := HB'.out.store ⟨2, s.last.route⟩
      have hld := (HB'.out.put ⟨2, s.last.route⟩).whole HN.out
      have HK' := Lib.hid ((HK.out.trans b1).setRow (w.heap.size + 1) (ic ⟨2, s.last.route⟩) (by omega))
      clear b1 h1 hw0
      go_wp2_with (refine at_build [(0, .int .i64 2), (1, .agg (rc s.last.route))] rfl _ (HB2.out _) ?_)
      refine bodyPost_ret (v := .tuple #[.agg (ic ⟨2, s.last.route⟩), .bool true]) ?_ rfl ⟨rfl, HK'.out⟩
      simp [results, Tryz.results48, go_sem, hsz, hld]
end Go.Proofs.YtgkgpdlakamgiaaGreat
