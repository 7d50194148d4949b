/- Proved: arguments that are lists of digests or of changes, or a route, or a change, opened. No condition. -/
import Derived.Test.YtfikdeobejhblaaMo
import Derived.Test.YtfikdeobejhblaaAx
namespace Go.Proofs.Ytfikdeobejhblaa
open Go.RowKit Go.ChangeShapes Go.WideShapes Go.ChangeAt Go.Joins Go.Deep

def SqI (i : Ic) : Prop := 0 ≤ i.route.seq ∧ i.route.seq < 4294967296
theorem cells47 : Try.prog.cellsOf 52 = 21 := by kernel_rfl
theorem cells_incS {H : Type} {enc : TypeId × Value → H} {W : World} {sp : Nat → Bool} {held : Bool} {fuel : Nat} {cs : List Value} {x : DataW H × List MemPlace} (hf : DataW.trod enc Try.prog W 0 sp held fuel 52 cs = some x) (hsz : cs.length = 21) : ∃ i : { i : Ic // SqI i }, cs = il i.1 := by
  obtain ⟨y0, y1, n, _, hl, h0, h1⟩ := trod_struct2 Try.underlying52 hf
  simp only [cells47, cells34, cells3] at hl h0 h1
  obtain ⟨k, hk, _, _⟩ := DataW.trod_int Try.underlying3 h0
  obtain ⟨r, hr⟩ := cells_routeS h1 (by rw [List.length_take, List.length_drop]; omega)
  refine ⟨⟨⟨k, r.1⟩, r.2⟩, ?_⟩
  have e1 : cs = cs.take 1 ++ (cs.drop 1).take 20 := by
    have h3 : (cs.drop 1).take 20 = cs.drop 1 := List.take_of_length_le (by simp; omega)
    rw [h3, List.take_append_drop]
  rw [List.drop_zero] at hk
  rw [hk, hr] at e1
  exact e1
instance : Inhabited { i : Ic // SqI i } := ⟨⟨zeroI, by unfold SqI zeroI zeroR; simp⟩⟩
theorem flat_valI (l : List { i : Ic // SqI i }) : flat (fun r : { i : Ic // SqI i } => il r.1) l = flat il (l.map (·.1)) := by
  unfold flat
  rw [List.flatMap_map]
theorem cells_valI {w : World} {v : Value} {l : List { i : Ic // SqI i }} (h : Cells (fun r : { i : Ic // SqI i } => il r.1) w v l) : Cells il w v (l.map (·.1)) := by
  rcases h with ⟨rfl, rfl⟩ | ⟨g, o, cap, rfl, h1, h2, h3, h4⟩
  · exact .inl ⟨rfl, rfl⟩
  · refine .inr ⟨g, o, cap, by rw [List.length_map], by rw [List.length_map]; exact h1, h2, h3, fun j u hj => ?_⟩
    rw [← flat_valI] at hj
    exact h4 j u hj
set_option maxRecDepth 100000 in
theorem open_incsN {H : Type} {enc : TypeId × Value → H} {W : World} {sp : Nat → Bool} {held : Bool} {b0 : Nat} {v : Value} {d : DataW H} {q : List MemPlace} (hv : Value.okWide Try.prog W .any b0 50 v) (h : DataW.Trod enc Try.prog W 0 sp held 50 v d q) :
    ∃ (a : Option Addr) (cap : Nat) (l : List Ic), v = .slice a l.length cap ∧ ArgN il W a cap l ∧ ∀ i ∈ l, SqI i := by
  obtain ⟨a, cap, l, rfl, ha⟩ := open_list (fun r : { i : Ic // SqI i } => il r.1) 50 52 21 Try.underlying50 cells47 (by omega) (fun r => il_len r.1) (fun hf hs => cells_incS hf hs) hv h
  refine ⟨a, cap, l.map (·.1), by rw [List.length_map], ⟨⟨fun hn => ?_, by rw [List.length_map]; exact ha.small⟩, fun e => ?_⟩, ?_⟩
  · have := cells_valI (ha.cells (fun e => hn (by rw [e]; rfl)))
    rwa [List.length_map]
  · subst e
    obtain ⟨fuel, hf⟩ := h
    rcases open_slice Try.underlying50 hf with ⟨hcs, _⟩ | ⟨x, l, c, m, n, D, Pl, hcs, _⟩
    · simp [Value.cells] at hcs
      exact hcs.2
    · simp [Value.cells] at hcs
  · intro r hr
    obtain ⟨x, _, rfl⟩ := List.mem_map.1 hr
    exact x.2
theorem Lg.arg {α : Type} {enc : α → List Value} {w : World} {a : Option Addr} {cap N : Nat} {l : List α} (h : ArgN enc w a cap l) (hN : l.length = N) : Lg enc w (.slice a N cap) l := by
  subst hN
  exact ⟨⟨a, cap, rfl⟩, fun e => h.cells e⟩
theorem slice_no (w : World) : (Instr.buildSlice 22 0 #[]).run Try.prog w = .ok (.slice (some ⟨w.heap.size, 0, none⟩) 0 0) (w.alloc (.cells #[] 37)) := by kernel_rfl
theorem slice_noI (w : World) : (Instr.buildSlice 50 0 #[]).run Try.prog w = .ok (.slice (some ⟨w.heap.size, 0, none⟩) 0 0) (w.alloc (.cells #[] 52)) := by kernel_rfl
theorem slice_noD (w : World) : (Instr.buildSlice 42 0 #[]).run Try.prog w = .ok (.slice (some ⟨w.heap.size, 0, none⟩) 0 0) (w.alloc (.cells #[] 68)) := by kernel_rfl
set_option maxRecDepth 100000 in
theorem open_routeS {H : Type} {enc : TypeId × Value → H} {W : World} {sp : Nat → Bool} {held : Bool} {b0 : Nat} {v : Value} {d : DataW H} {q : List MemPlace} (hv : Value.okWide Try.prog W .any b0 37 v) (h : DataW.Trod enc Try.prog W 0 sp held 37 v d q) : ∃ r : Rt, v = .agg (rc r) ∧ Sq r := by
  obtain ⟨cs, rfl, hsz⟩ := okWide_struct Try.underlying37 hv
  obtain ⟨fuel, hf⟩ := h
  obtain ⟨r, hr⟩ := cells_routeS hf (by rw [cells34] at hsz; simpa [Value.cells] using hsz)
  refine ⟨r.1, ?_, r.2⟩
  congr 1
  apply Array.ext'
  simpa [Value.cells, rc] using hr
set_option maxRecDepth 100000 in
theorem open_incS {H : Type} {enc : TypeId × Value → H} {W : World} {sp : Nat → Bool} {held : Bool} {b0 : Nat} {v : Value} {d : DataW H} {q : List MemPlace} (hv : Value.okWide Try.prog W .any b0 52 v) (h : DataW.Trod enc Try.prog W 0 sp held 52 v d q) : ∃ i : Ic, v = .agg (ic i) ∧ SqI i := by
  obtain ⟨cs, rfl, hsz⟩ := okWide_struct Try.underlying52 hv
  obtain ⟨fuel, hf⟩ := h
  obtain ⟨r, hr⟩ := cells_incS hf (by rw [cells47] at hsz; simpa [Value.cells] using hsz)
  refine ⟨r.1, ?_, r.2⟩
  congr 1
  apply Array.ext'
  simpa [Value.cells, ic] using hr
theorem cellsD : Try.prog.cellsOf 68 = 2 := by kernel_rfl
theorem cells64 : Try.prog.cellsOf 38 = 1 := by kernel_rfl
theorem cells_dg {H : Type} {enc : TypeId × Value → H} {W : World} {sp : Nat → Bool} {held : Bool} {fuel : Nat} {cs : List Value} {x : DataW H × List MemPlace} (hf : DataW.trod enc Try.prog W 0 sp held fuel 68 cs = some x) (hsz : cs.length = 2) : ∃ d : { d : Dg // SqD d }, cs = dl d.1 := by
  obtain ⟨y0, y1, n, _, hl, h0, h1⟩ := trod_struct2 Try.underlying68 hf
  simp only [cellsD, cells64, cells3] at hl h0 h1
  obtain ⟨k, hk, _, w1⟩ := DataW.trod_int Try.underlying3 h0
  obtain ⟨s, hs, _, w2⟩ := DataW.trod_int Try.underlying38 h1
  have b1 := bounds_i64 w1
  have b2 := bounds_u64 w2
  refine ⟨⟨⟨k, s⟩, ⟨by show k < 9223372036854775808; omega, by show 0 ≤ s; omega, by show s < 18446744073709551616; omega⟩⟩, ?_⟩
  have e1 : cs = cs.take 1 ++ (cs.drop 1).take 1 := by
    have h3 : (cs.drop 1).take 1 = cs.drop 1 := List.take_of_length_le (by simp; omega)
    rw [h3, List.take_append_drop]
  rw [List.drop_zero] at hk
  rw [hk, hs] at e1
  exact e1
instance : Inhabited { d : Dg // SqD d } := ⟨⟨zeroD, by unfold SqD zeroD; simp⟩⟩
theorem flat_valD (l : List { d : Dg // SqD d }) : flat (fun r : { d : Dg // SqD d } => dl r.1) l = flat dl (l.map (·.1)) := by
  unfold flat
  rw [List.flatMap_map]
theorem cells_valD {w : World} {v : Value} {l : List { d : Dg // SqD d }} (h : Cells (fun r : { d : Dg // SqD d } => dl r.1) w v l) : Cells dl w v (l.map (·.1)) := by
  rcases h with ⟨rfl, rfl⟩ | ⟨g, o, cap, rfl, h1, h2, h3, h4⟩
  · exact .inl ⟨rfl, rfl⟩
  · refine .inr ⟨g, o, cap, by rw [List.length_map], by rw [List.length_map]; exact h1, h2, h3, fun j u hj => ?_⟩
    rw [← flat_valD] at hj
    exact h4 j u hj
set_option maxRecDepth 100000 in
theorem open_digestsN {H : Type} {enc : TypeId × Value → H} {W : World} {sp : Nat → Bool} {held : Bool} {b0 : Nat} {v : Value} {d : DataW H} {q : List MemPlace} (hv : Value.okWide Try.prog W .any b0 42 v) (h : DataW.Trod enc Try.prog W 0 sp held 42 v d q) :
    ∃ (a : Option Addr) (cap : Nat) (l : List Dg), v = .slice a l.length cap ∧ ArgN dl W a cap l ∧ ∀ d ∈ l, SqD d := by
  obtain ⟨a, cap, l, rfl, ha⟩ := open_list (fun r : { d : Dg // SqD d } => dl r.1) 42 68 2 Try.underlying42 cellsD (by omega) (fun _ => rfl) (fun hf hs => cells_dg hf hs) hv h
  refine ⟨a, cap, l.map (·.1), by rw [List.length_map], ⟨⟨fun hn => ?_, by rw [List.length_map]; exact ha.small⟩, fun e => ?_⟩, ?_⟩
  · have := cells_valD (ha.cells (fun e => hn (by rw [e]; rfl)))
    rwa [List.length_map]
  · subst e
    obtain ⟨fuel, hf⟩ := h
    rcases open_slice Try.underlying42 hf with ⟨hcs, _⟩ | ⟨x, l, c, m, n, D, Pl, hcs, _⟩
    · simp [Value.cells] at hcs
      exact hcs.2
    · simp [Value.cells] at hcs
  · intro r hr
    obtain ⟨x, _, rfl⟩ := List.mem_map.1 hr
    exact x.2
end Go.Proofs.Ytfikdeobejhblaa
