/- Proved: several texts in one: arguments that are prefixes, routes, or lists of them, opened; arguments that are lists of routes, opened: their numbers have 32 bits; arguments that are lists of routes, opened, and joined to lists of one's own. Each with its conditions where it stands. -/
import Derived.Test.YtfikdeobejhblaaMt
import Derived.ProofKit
import Derived.OpenShut
import Derived.Lib.SmallJoins
import Derived.Deep.Slices
import Derived.Deep.Strs

/- Proved: arguments that are prefixes, routes, or lists of them, opened. No condition. -/
namespace Go.Proofs.Ytfikdeobejhblaa
open Go.RowKit Go.ChangeShapes Go.WideShapes Go.ChangeAt Go.Joins Go.Deep

theorem own : ownKnob Try.prog.godebug = none := by kernel_rfl
theorem laidOut : laidOutB Try.prog = true := by kernel_rfl
theorem cells34 : Try.prog.cellsOf 37 = 20 := by kernel_rfl
theorem cells18 : Try.prog.cellsOf 34 = 18 := by kernel_rfl
theorem cells16 : Try.prog.cellsOf 32 = 16 := by kernel_rfl
theorem cells5 : Try.prog.cellsOf 5 = 1 := by kernel_rfl
theorem cells4 : Try.prog.cellsOf 4 = 1 := by kernel_rfl
theorem cells3 : Try.prog.cellsOf 3 = 1 := by kernel_rfl
theorem cells32 : Try.prog.cellsOf 35 = 1 := by kernel_rfl
section
variable {H : Type} {enc : TypeId × Value → H} {W : World} {sp : Nat → Bool} {held : Bool}
theorem bytes_of {m : Nat} : ∀ (cs : List Value) (xs : List (DataW H × List MemPlace)), cs.length = xs.length →
    (∀ i, i < cs.length → DataW.trod enc Try.prog W 0 sp held m 5 ((cs.drop (i * 1)).take 1) = xs[i]?) → ∃ l : List UInt8, cs = l.map bv
  | [], _, _, _ => ⟨[], rfl⟩
  | c :: cs, [], hl, _ => by simp at hl
  | c :: cs, x :: xs, hl, h => by
    have h0 := h 0 (by simp)
    simp only [Nat.zero_mul, List.drop_zero, List.take_succ_cons, List.take_zero, List.getElem?_cons_zero] at h0
    obtain ⟨n, hn, _, hw⟩ := DataW.trod_int Try.underlying5 h0
    have hb := bounds_u8 hw
    obtain ⟨l, rfl⟩ := bytes_of cs xs (by simpa using hl) (fun i hi => by
      have := h (i + 1) (by simpa using hi)
      simpa using this)
    simp only [List.cons.injEq, and_true] at hn
    refine ⟨UInt8.ofNat n.toNat :: l, ?_⟩
    rw [hn]
    simp only [List.map_cons, bv, List.cons.injEq, and_true]
    rw [UInt8.toNat_ofNat_of_lt' (by simp [UInt8.size]; omega)]
    congr 1
    omega
theorem cells_prefix {fuel : Nat} {cs : List Value} {x : DataW H × List MemPlace} (hf : DataW.trod enc Try.prog W 0 sp held fuel 34 cs = some x) (hsz : cs.length = 18) : ∃ p : Px, cs = (pc p).toList ∧ p.addr.length = 16 := by
  obtain ⟨y0, y1, y2, n, _, hl, h0, h1, h2⟩ := trod_struct3 Try.underlying34 hf
  simp only [cells18, cells4, cells16, cells3] at hl h0 h1 h2
  obtain ⟨s, hs, _⟩ := DataW.trod_bool Try.underlying4 h0
  obtain ⟨len, hn, _, hw⟩ := DataW.trod_int Try.underlying3 h2
  obtain ⟨xs, m, _, _, hl1, hxl, hel⟩ := DataW.trod_array Try.underlying32 h1
  rw [cells5] at hel
  rw [cells16] at hl1
  obtain ⟨l, hla⟩ := bytes_of _ xs (by rw [hl1, hxl]) (fun i hi => hel i (by omega))
  have hl16 : l.length = 16 := by have := congrArg List.length hla; rw [hl1] at this; simpa using this.symm
  refine ⟨⟨s, l, len⟩, ?_, hl16⟩
  unfold pc
  simp only
  rw [← hla]
  have e1 : cs = cs.take 1 ++ ((cs.drop 1).take 16 ++ (cs.drop 17).take 1) := by
    have h3 : (cs.drop 17).take 1 = cs.drop 17 := List.take_of_length_le (by simp; omega)
    have h4 : cs.drop 17 = (cs.drop 1).drop 16 := by rw [List.drop_drop]
    rw [h3, h4, List.take_append_drop, List.take_append_drop]
  rw [List.drop_zero] at hs
  rw [hs, hn] at e1
  exact e1
theorem cells_route {fuel : Nat} {cs : List Value} {x : DataW H × List MemPlace} (hf : DataW.trod enc Try.prog W 0 sp held fuel 37 cs = some x) (hsz : cs.length = 20) : ∃ r : Rt, cs = rl r := by
  obtain ⟨y0, y1, y2, n, _, hl, h0, h1, h2⟩ := trod_struct3 Try.underlying37 hf
  simp only [cells34, cells18, cells32, cells3] at hl h0 h1 h2
  rw [List.drop_zero] at h0
  obtain ⟨p, hp, h16⟩ := cells_prefix h0 (by rw [List.length_take]; omega)
  obtain ⟨m, hm, _, _⟩ := DataW.trod_int Try.underlying3 h1
  obtain ⟨s, hs, _, _⟩ := DataW.trod_int Try.underlying35 h2
  refine ⟨⟨p, m, s, h16⟩, ?_⟩
  have e1 : cs = cs.take 18 ++ ((cs.drop 18).take 1 ++ (cs.drop 19).take 1) := by
    have h3 : (cs.drop 19).take 1 = cs.drop 19 := List.take_of_length_le (by simp; omega)
    have h4 : cs.drop 19 = (cs.drop 18).drop 1 := by rw [List.drop_drop]
    rw [h3, h4, List.take_append_drop, List.take_append_drop]
  rw [hp, hm, hs] at e1
  exact e1
set_option maxRecDepth 100000 in
theorem open_prefix {b0 : Nat} {v : Value} {d : DataW H} {q : List MemPlace} (hv : Value.okWide Try.prog W .any b0 34 v) (h : DataW.Trod enc Try.prog W 0 sp held 34 v d q) : ∃ p : Px, v = .agg (pc p) ∧ p.addr.length = 16 := by
  obtain ⟨cs, rfl, hsz⟩ := okWide_struct Try.underlying34 hv
  obtain ⟨fuel, hf⟩ := h
  obtain ⟨p, hp, h16⟩ := cells_prefix hf (by rw [cells18] at hsz; simpa [Value.cells] using hsz)
  refine ⟨p, ?_, h16⟩
  congr 1
  apply Array.ext'
  simpa [Value.cells] using hp
set_option maxRecDepth 100000 in
theorem open_route {b0 : Nat} {v : Value} {d : DataW H} {q : List MemPlace} (hv : Value.okWide Try.prog W .any b0 37 v) (h : DataW.Trod enc Try.prog W 0 sp held 37 v d q) : ∃ r : Rt, v = .agg (rc r) := by
  obtain ⟨cs, rfl, hsz⟩ := okWide_struct Try.underlying37 hv
  obtain ⟨fuel, hf⟩ := h
  obtain ⟨r, hr⟩ := cells_route hf (by rw [cells34] at hsz; simpa [Value.cells] using hsz)
  refine ⟨r, ?_⟩
  congr 1
  apply Array.ext'
  simpa [Value.cells, rc] using hr
end
end Go.Proofs.Ytfikdeobejhblaa

/- Proved: arguments that are lists of routes, opened: their numbers have 32 bits. No condition. -/
namespace Go.Proofs.Ytfikdeobejhblaa
open Go.RowKit Go.ChangeShapes Go.WideShapes Go.ChangeAt Go.Joins Go.Deep

/-- A list that came in. -/
structure ArgL {α : Type} (enc : α → List Value) (w : World) (a : Option Addr) (cap : Nat) (l : List α) : Prop where
  cells : l ≠ [] → Cells enc w (.slice a l.length cap) l
  small : l.length ≤ maxLen
theorem ArgL.keep {α : Type} {enc : α → List Value} {w w' : World} {a : Option Addr} {cap : Nat} {l : List α} (h : ArgL enc w a cap l) (k : Keep w w') : ArgL enc w' a cap l := ⟨fun hn => (h.cells hn).keep k, h.small⟩

set_option maxRecDepth 100000 in
theorem open_list {H : Type} {enc : TypeId × Value → H} {W : World} {sp : Nat → Bool} {held : Bool} {b0 : Nat} {v : Value} {d : DataW H} {q : List MemPlace} {α : Type} [Inhabited α] (en : α → List Value) (t e k : Nat) (ht : Try.prog.underlying t = some (.slice e)) (hk : Try.prog.cellsOf e = k) (hk0 : 0 < k) (hen : ∀ x, (en x).length = k)
    (hel : ∀ {fuel : Nat} {cs : List Value} {x : DataW H × List MemPlace}, DataW.trod enc Try.prog W 0 sp held fuel e cs = some x → cs.length = k → ∃ y : α, cs = en y)
    (hv : Value.okWide Try.prog W .any b0 t v) (h : DataW.Trod enc Try.prog W 0 sp held t v d q) : ∃ (a : Option Addr) (cap : Nat) (l : List α), v = .slice a l.length cap ∧ ArgL en W a cap l := by
  obtain ⟨a0, len, cap, rfl⟩ := okWide_slice ht hv
  obtain ⟨fuel, hf⟩ := h
  rcases open_slice ht hf with ⟨hcs, _⟩ | ⟨x, l, c, m, n, D, Pl, hcs, hb, hl, hm, hmm, _, hi⟩
  · simp [Value.cells] at hcs
    obtain ⟨rfl, rfl, rfl⟩ := hcs
    exact ⟨none, 0, [], rfl, fun hn => absurd rfl hn, Nat.zero_le _⟩
  · simp [Value.cells] at hcs
    obtain ⟨rfl, rfl, rfl⟩ := hcs
    have hm2 : len ≤ m := by rw [hmm]; split <;> omega
    obtain ⟨f, hf⟩ := choose_lt (α := α) (n := len) (p := fun i y => ∀ j, j < k → W.cell? ((x.add (i * k)).add j) = (en y)[j]?) (fun i hi' => by
      obtain ⟨cs, hc, ht'⟩ := hi i (by omega)
      rw [hk] at hc
      obtain ⟨_, hlen, hat⟩ := World.cells?_some hc
      obtain ⟨y, rfl⟩ := hel ht' hlen
      exact ⟨y, fun j hj => hat j hj⟩)
    refine ⟨some x, cap, (List.range len).map f, by simp, fun hn => ?_, by simp; omega⟩
    have hpos : 0 < len := by
      rcases Nat.eq_zero_or_pos len with h0 | h0
      · rw [h0] at hn; simp at hn
      · exact h0
    have h00 := hf 0 hpos 0 hk0
    rw [Nat.zero_mul] at h00
    have hx0 : (en (f 0))[0]? = some ((en (f 0))[0]'(by rw [hen]; exact hk0)) := List.getElem?_eq_getElem _
    obtain ⟨b, off, spot⟩ := x
    have hspot : spot = none := by
      have := World.cell?_spot (h00.trans hx0)
      simpa [Addr.add] using this
    subst hspot
    rw [add_plain, add_plain] at h00
    have hlt := World.block_lt_of_cell? W _ (h00.trans hx0)
    refine .inr ⟨b, off, cap, rfl, by simpa using hl, hm, hlt, fun j u hj => ?_⟩
    have hj2 := (List.getElem?_eq_some_iff.1 hj).1
    rw [flat_len en hen] at hj2
    simp at hj2
    have hdv : j / k < len := Nat.div_lt_of_lt_mul (by rw [Nat.mul_comm]; exact hj2)
    have hmd : j % k < k := Nat.mod_lt _ hk0
    have hg := flat_get en hen ((List.range len).map f) (j / k) (f (j / k)) (by simp [hdv]) (j % k) hmd
    have hjj : j / k * k + j % k = j := by rw [Nat.mul_comm]; exact Nat.div_add_mod j k
    rw [hjj, hj] at hg
    have hc := hf (j / k) hdv (j % k) hmd
    rw [add_plain, add_plain, ← hg, Nat.add_assoc, hjj] at hc
    exact hc

/-- A number of 32 bits. -/
def Sq (r : Rt) : Prop := 0 ≤ r.seq ∧ r.seq < 4294967296
theorem wf_u32 {s : Int} (h : (Lit.int .u32 s).wf = true) : 0 ≤ s ∧ s < 4294967296 := by
  have := bounds_u32 h
  omega
theorem cells_routeS {H : Type} {enc : TypeId × Value → H} {W : World} {sp : Nat → Bool} {held : Bool} {fuel : Nat} {cs : List Value} {x : DataW H × List MemPlace} (hf : DataW.trod enc Try.prog W 0 sp held fuel 37 cs = some x) (hsz : cs.length = 20) : ∃ r : { r : Rt // Sq r }, cs = rl r.1 := by
  obtain ⟨r, rfl⟩ := cells_route hf hsz
  obtain ⟨y0, y1, y2, n, _, hl, h0, h1, h2⟩ := trod_struct3 Try.underlying37 hf
  simp only [cells34, cells18, cells32, cells3] at hl h0 h1 h2
  obtain ⟨s, hs, _, hw⟩ := DataW.trod_int Try.underlying35 h2
  have e : ((rl r).drop 19).take 1 = [.int .u32 r.seq] := by
    have := rl_seq r
    have h20 := rl_len r
    apply List.ext_getElem?
    intro j
    rw [List.getElem?_take, List.getElem?_drop]
    by_cases hj : j < 1
    · obtain rfl : j = 0 := by omega
      rw [if_pos hj, Nat.add_zero, this]
      rfl
    · rw [if_neg hj]
      simp
      omega
  rw [e] at hs
  simp at hs
  rw [← hs] at hw
  exact ⟨⟨r, wf_u32 hw⟩, rfl⟩
instance : Inhabited { r : Rt // Sq r } := ⟨⟨zeroR, by unfold Sq zeroR; simp⟩⟩
theorem flat_val (l : List { r : Rt // Sq r }) : flat (fun r : { r : Rt // Sq r } => rl r.1) l = flat rl (l.map (·.1)) := by
  unfold flat
  rw [List.flatMap_map]
theorem cells_val {w : World} {v : Value} {l : List { r : Rt // Sq r }} (h : Cells (fun r : { r : Rt // Sq r } => rl r.1) w v l) : Cells rl w v (l.map (·.1)) := by
  rcases h with ⟨rfl, rfl⟩ | ⟨g, o, cap, rfl, h1, h2, h3, h4⟩
  · exact .inl ⟨rfl, rfl⟩
  · refine .inr ⟨g, o, cap, by rw [List.length_map], by rw [List.length_map]; exact h1, h2, h3, fun j u hj => ?_⟩
    rw [← flat_val] at hj
    exact h4 j u hj
set_option maxRecDepth 100000 in
theorem open_routes {H : Type} {enc : TypeId × Value → H} {W : World} {sp : Nat → Bool} {held : Bool} {b0 : Nat} {v : Value} {d : DataW H} {q : List MemPlace} (hv : Value.okWide Try.prog W .any b0 22 v) (h : DataW.Trod enc Try.prog W 0 sp held 22 v d q) :
    ∃ (a : Option Addr) (cap : Nat) (l : List Rt), v = .slice a l.length cap ∧ ArgL rl W a cap l ∧ ∀ r ∈ l, Sq r := by
  obtain ⟨a, cap, l, rfl, ha⟩ := open_list (fun r : { r : Rt // Sq r } => rl r.1) 22 37 20 Try.underlying22 cells34 (by omega) (fun r => rl_len r.1) (fun hf hs => cells_routeS hf hs) hv h
  refine ⟨a, cap, l.map (·.1), by rw [List.length_map], ⟨fun hn => ?_, by rw [List.length_map]; exact ha.small⟩, ?_⟩
  · have := cells_val (ha.cells (fun e => hn (by rw [e]; rfl)))
    rwa [List.length_map]
  · intro r hr
    obtain ⟨x, _, rfl⟩ := List.mem_map.1 hr
    exact x.2
end Go.Proofs.Ytfikdeobejhblaa

/- Proved: arguments that are lists of routes, opened, and joined to lists of one's own. No condition. -/
namespace Go.Proofs.Ytfikdeobejhblaa
open Go.RowKit Go.ChangeShapes Go.WideShapes Go.ChangeAt Go.Joins Go.Deep

/-- A list that came in, or none. -/
structure ArgN {α : Type} (enc : α → List Value) (w : World) (a : Option Addr) (cap : Nat) (l : List α) : Prop extends ArgL enc w a cap l where
  none' : a = none → cap = 0
theorem ArgN.keep {α : Type} {enc : α → List Value} {w w' : World} {a : Option Addr} {cap : Nat} {l : List α} (h : ArgN enc w a cap l) (k : Keep w w') : ArgN enc w' a cap l := ⟨h.toArgL.keep k, h.none'⟩
set_option maxRecDepth 100000 in
theorem open_routesN {H : Type} {enc : TypeId × Value → H} {W : World} {sp : Nat → Bool} {held : Bool} {b0 : Nat} {v : Value} {d : DataW H} {q : List MemPlace} (hv : Value.okWide Try.prog W .any b0 22 v) (h : DataW.Trod enc Try.prog W 0 sp held 22 v d q) :
    ∃ (a : Option Addr) (cap : Nat) (l : List Rt), v = .slice a l.length cap ∧ ArgN rl W a cap l ∧ ∀ r ∈ l, Sq r := by
  obtain ⟨a, cap, l, rfl, ha, hq⟩ := open_routes hv h
  refine ⟨a, cap, l, rfl, ⟨ha, fun e => ?_⟩, hq⟩
  subst e
  obtain ⟨fuel, hf⟩ := h
  rcases open_slice Try.underlying22 hf with ⟨hcs, _⟩ | ⟨x, l, c, m, n, D, Pl, hcs, _⟩
  · simp [Value.cells] at hcs
    exact hcs.2
  · simp [Value.cells] at hcs
theorem wp_appN {α : Type} {ts t k bs : Nat} {enc : α → List Value} (E : El ts t k bs enc) {ops : Array Oper} {rest : List Oper} {o : Oper} {a : Act} {Q : Exit → Act → World → Prop} {w : World} (hgd : o.guard = none) (s x : Operand)
    (ho : o.op = .call { callee := .builtin .append, args := #[s, x], argTypes := #[ts, ts] }) (B : Nat) (v : Value) (a0 : Option Addr) (N cap : Nat) (l m : List α) (hs : a.eval s = v) (hN : m.length = N) (hx : a.eval x = .slice a0 N cap) (hown : Own t k enc B w v l) (hsrc : ArgN enc w a0 cap m)
    (hsm : (l.length + m.length) * bs ≤ 140737488355328) (hb : l.length + m.length ≤ 1000000) (hbase : B ≤ w.heap.size)
    (h : ∀ v' w', Own t k enc B w' v' (l ++ m) → w.grownBy w' v.ownBlock → wpList Try.prog ops Q rest (a.put o.dst v') w') : wpList Try.prog ops Q (o :: rest) a w := by
  subst hN
  by_cases hm : m = []
  · subst hm
    cases a0 with
    | none =>
      have hc := hsrc.none' rfl
      subst hc
      exact wp_app E hgd s x ho B v _ l [] hs hx hown (Cells.nil w) hsm hb hbase h
    | some ad =>
      obtain ⟨it, z, hi, hz, hsz, hby, hzs⟩ := E.info
      refine wpList_append_own w hgd s x ts ho B t it z k bs E.under hi hz hsz hby hzs E.pos v _ _ hs hown ad 0 cap [] hx (by simp) (fun j u hj => by simp at hj) (fun u hu => by simp at hu) (by unfold maxLen; simp at hb ⊢; omega) (by simpa using hsm) hbase ?_
      intro v' w' k1 k2 _
      refine h v' w' ?_ k2
      unfold Own
      simpa using k1
  · exact wp_app E hgd s x ho B v _ l m hs hx hown (hsrc.cells hm) hsm hb hbase h
end Go.Proofs.Ytfikdeobejhblaa
