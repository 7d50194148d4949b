/- Proved: rules of the walk for a region that draws its order and appends to a list of one's own; stores of the document's sender, one behind the other. No condition. -/
import Derived.Test.YtcnaaoakcmdfkaaDoorRc
namespace Go.Proofs.YtcnaaoakcmdfkaaDoor
open Go.RowKit

/-- What makes memory, or stores, or appends. -/
def isMade2 (o : Oper) : Bool := match o.op with
  | .alloc _ => true
  | .store _ _ _ => true
  | .buildSlice _ _ _ => true
  | .call c => (match c.callee with | .builtin .append => true | _ => false)
  | _ => false
/-- Three worlds, one behind the other. -/
def Ph3 (a b c : World) : Nat → World → Prop
  | 0, w => w = a
  | 1, w => w = b
  | _, w => w = c
instance (a b c : World) : Nonempty (PW (Ph3 a b c)) := ⟨⟨a, 0, rfl⟩⟩
theorem Ph3.all {a b c : World} {X : World → Prop} (ha : X a) (hb : X b) (hc : X c) (u : PW (Ph3 a b c)) : X u.1 := by
  obtain ⟨w, q, hq⟩ := u
  match q, hq with
  | 0, hq => obtain rfl : w = a := hq; exact ha
  | 1, hq => obtain rfl : w = b := hq; exact hb
  | q + 2, hq => obtain rfl : w = c := hq; exact hc
theorem app_run {α : Type} {ts t k bs : Nat} {enc : α → List Value} (E : El ts t k bs enc) (w : World) (B : Nat) (v : Value) (l m : List α) (b cap : Nat) (hown : Own t k enc B w v l) (hnew : ∀ j u, (flat enc m)[j]? = some u → w.cell? ⟨b, j, none⟩ = some u)
    (hsm : (l.length + m.length) * bs ≤ 140737488355328) (hb : l.length + m.length ≤ 1000000) (hbase : B ≤ w.heap.size) :
    ∃ v' w', (Builtin.append_ #[ts, ts] ts #[v, .slice (some ⟨b, 0, none⟩) m.length cap]).run Tryd.prog w = .ok v' w' ∧ Own t k enc B w' v' (l ++ m) ∧ w.grownBy w' v.ownBlock := by
  obtain ⟨it, z, hi, hz, hsz, hby, hzs⟩ := E.info
  obtain ⟨v', w', h1, h2, h3, _⟩ := run_append_own (P := Tryd.prog) w B ts ts t it z k bs E.under hi hz hsz hby hzs E.pos v _ _ hown ⟨b, 0, none⟩ m.length cap (flat enc m) (flat_len enc E.len m) (fun j u hj => by
    rw [show (⟨b, 0, none⟩ : Addr).add j = ⟨b, j, none⟩ from by unfold Addr.add; split <;> simp_all]
    exact hnew j u hj) (flat_one' E.one m) (by unfold maxLen; omega) hsm hbase
  refine ⟨v', w', h1, ?_, h3⟩
  unfold Own
  rw [flat_append, List.length_append]
  exact h2
theorem frame_news (w : World) (f : Fr) : ∀ j u, (flat fl [f])[j]? = some u → (w.alloc (.cells (fc f) 34)).cell? ⟨w.heap.size, j, none⟩ = some u := fun j u hj => by
  rw [flat_one] at hj
  refine cell_obj (heap_alloc_last w _) ?_
  simpa [fc] using hj
section
variable {P : Program} {ops : Array Oper} {C : Nat → World → Prop} {A : Oper → Bool} {Q : Act → Nat → Prop} {rest : List Oper} {a : Act} {p : Nat}
/-- An append, from one world to another. -/
theorem ph_app {dst : Option Tmp} {x y : Operand} {ts ty : TypeId} {pos : String} {after : Array Edge} {w w' : World} {v u v' : Value}
    (hA : A { dst := dst, op := .call { callee := .builtin .append, args := #[x, y], argTypes := #[ts, ts] }, type := ty, pos := pos, after := after, guard := none } = true)
    (hx : a.eval x = v) (hy : a.eval y = u) (hrun : (Builtin.append_ #[ts, ts] ty #[v, u]).run P w = .ok v' w') (h1 : ∀ w1, C p w1 → w1 = w) (h2 : C (p + 1) w')
    (h : wpPh P ops C A Q rest (a.put dst v') (p + 1)) : wpPh P ops C A Q ({ dst := dst, op := .call { callee := .builtin .append, args := #[x, y], argTypes := #[ts, ts] }, type := ty, pos := pos, after := after, guard := none } :: rest) a p := by
  refine ph_make rfl hA v' (fun _ => w') (fun w1 hw => ?_) h
  obtain rfl := h1 w1 hw
  refine ⟨?_, h2⟩
  rw [BigFrame.execOp_builtin, BigFrame.builtin_append, Sem.run_bind]
  rw [show (#[x, y].map a.eval : Array Value) = #[v, u] from by simp [hx, hy], hrun]
  rfl
/-- A list by a literal, from one world to another. -/
theorem ph_slice {dst : Option Tmp} {t ty : TypeId} {n : Nat} {pos : String} {after : Array Edge} {parts : Array (Nat × Operand)} {w w' : World} {v : Value} (L : List (Nat × Value))
    (hA : A { dst := dst, op := .buildSlice t n parts, type := ty, pos := pos, after := after, guard := none } = true)
    (hp : (parts.toList.map fun x => (x.1, a.eval x.2)) = L) (hr : (Instr.buildSlice t n L.toArray).run P w = .ok v w') (h1 : ∀ w1, C p w1 → w1 = w) (h2 : C (p + 1) w')
    (h : wpPh P ops C A Q rest (a.put dst v) (p + 1)) : wpPh P ops C A Q ({ dst := dst, op := .buildSlice t n parts, type := ty, pos := pos, after := after, guard := none } :: rest) a p := by
  refine ph_make rfl hA v (fun _ => w') (fun w1 hw => ?_) h
  obtain rfl := h1 w1 hw
  refine ⟨?_, h2⟩
  unfold execOp
  simp only [Sem.run_bind, parts_list hp, hr, Result.andThen_ok, Sem.run_pure]
end
theorem R.setPut2 {w : World} {g bt ba cap : Nat} {a : Option Addr} {iv : Value} {s : Sd} (h : R w g bt ba a cap iv s) (i : Nat) (hi : i < s.ch.length) (ho : s.over i = false) :
    R ((w.setCell ⟨bt, i, none⟩ (.int .i64 ((s.at i).tries + 1 : Nat))).drew.setCell ⟨ba, i, none⟩ (.int .i64 (s.now : Nat))) g bt ba a cap iv (s.put i) :=
  (h.setPut i hi ho).keep (Keep.refl _).drew
end Go.Proofs.YtcnaaoakcmdfkaaDoor
