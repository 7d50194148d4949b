/- Proved: arguments that are lists of changes, opened: their numbers have 32 bits; a table made of an argument. No condition. -/
import Derived.Test.YtgkgpdlakamgiaaGreatMo
import Derived.Test.YtgkgpdlakamgiaaGreatAx
namespace Go.Proofs.YtgkgpdlakamgiaaGreat
open Go.RowKit Go.ChangeShapes Go.WideShapes Go.ChangeAt Go.Joins Go.Deep

theorem cells47 : Tryz.prog.cellsOf 59 = 21 := by kernel_rfl
theorem cells_incS {H : Type} {enc : TypeId × Value → H} {W : World} {sp : Nat → Bool} {held : Bool} {fuel : Nat} {cs : List Value} {x : DataW H × List MemPlace} (hf : DataW.trod enc Tryz.prog W 0 sp held fuel 59 cs = some x) (hsz : cs.length = 21) : ∃ i : { i : Ic // SqI i }, cs = il i.1 := by
  obtain ⟨y0, y1, n, _, hl, h0, h1⟩ := trod_struct2 Tryz.underlying59 hf
  simp only [cells47, cells34, cells3] at hl h0 h1
  obtain ⟨k, hk, _, _⟩ := DataW.trod_int Tryz.underlying3 h0
  obtain ⟨r, hr⟩ := cells_routeS h1 (by rw [List.length_take, List.length_drop]; omega)
  refine ⟨⟨⟨k, r.1⟩, r.2⟩, ?_⟩
  have e1 : cs = cs.take 1 ++ (cs.drop 1).take 20 := by
    have h3 : (cs.drop 1).take 20 = cs.drop 1 := List.take_of_length_le (by simp; omega)
    rw [h3, List.take_append_drop]
  rw [List.drop_zero] at hk
  rw [hk, hr] at e1
  exact e1
instance : Inhabited { i : Ic // SqI i } := ⟨⟨zeroI, by unfold SqI zeroI zeroR; simp⟩⟩
theorem flat_valI (l : List { i : Ic // SqI i }) : flat (fun r : { i : Ic // SqI i } => il r.1) l = flat il (l.map (·.1)) := by
  unfold flat
  rw [List.flatMap_map]
theorem cells_valI {w : World} {v : Value} {l : List { i : Ic // SqI i }} (h : Cells (fun r : { i : Ic // SqI i } => il r.1) w v l) : Cells il w v (l.map (·.1)) := by
  rcases h with ⟨rfl, rfl⟩ | ⟨g, o, cap, rfl, h1, h2, h3, h4⟩
  · exact .inl ⟨rfl, rfl⟩
  · refine .inr ⟨g, o, cap, by rw [List.length_map], by rw [List.length_map]; exact h1, h2, h3, fun j u hj => ?_⟩
    rw [← flat_valI] at hj
    exact h4 j u hj
set_option maxRecDepth 100000 in
theorem open_incsN {H : Type} {enc : TypeId × Value → H} {W : World} {sp : Nat → Bool} {held : Bool} {b0 : Nat} {v : Value} {d : DataW H} {q : List MemPlace} (hv : Value.okWide Tryz.prog W .any b0 22 v) (h : DataW.Trod enc Tryz.prog W 0 sp held 22 v d q) :
    ∃ (a : Option Addr) (cap : Nat) (l : List Ic), v = .slice a l.length cap ∧ ArgN il W a cap l ∧ ∀ i ∈ l, SqI i := by
  obtain ⟨a, cap, l, rfl, ha⟩ := open_list (fun r : { i : Ic // SqI i } => il r.1) 22 59 21 Tryz.underlying22 cells47 (by omega) (fun r => il_len r.1) (fun hf hs => cells_incS hf hs) hv h
  refine ⟨a, cap, l.map (·.1), by rw [List.length_map], ⟨⟨fun hn => ?_, by rw [List.length_map]; exact ha.small⟩, fun e => ?_⟩, ?_⟩
  · have := cells_valI (ha.cells (fun e => hn (by rw [e]; rfl)))
    rwa [List.length_map]
  · subst e
    obtain ⟨fuel, hf⟩ := h
    rcases open_slice Tryz.underlying22 hf with ⟨hcs, _⟩ | ⟨x, l, c, m, n, D, Pl, hcs, _⟩
    · simp [Value.cells] at hcs
      exact hcs.2
    · simp [Value.cells] at hcs
  · intro r hr
    obtain ⟨x, _, rfl⟩ := List.mem_map.1 hr
    exact x.2
theorem Ls.arg {w : World} {a : Option Addr} {cap N : Nat} {l : List Ic} (h : ArgN il w a cap l) (hN : l.length = N) : Ls w (.slice a N cap) l := by
  subst hN
  exact ⟨⟨a, cap, rfl⟩, fun e => h.cells e⟩
theorem slice_no (w : World) : (Instr.buildSlice 36 0 #[]).run Tryz.prog w = .ok (.slice (some ⟨w.heap.size, 0, none⟩) 0 0) (w.alloc (.cells #[] 57)) := by kernel_rfl
theorem slice_noI (w : World) : (Instr.buildSlice 22 0 #[]).run Tryz.prog w = .ok (.slice (some ⟨w.heap.size, 0, none⟩) 0 0) (w.alloc (.cells #[] 59)) := by kernel_rfl
end Go.Proofs.YtgkgpdlakamgiaaGreat
