/- Proved: lists that grow (append); what the library's Clone, Grow and Concat answer over routes. Condition: lists are short enough for memory. -/
import Derived.Test.YtgocmolebanflaaI
import Derived.Laws.AppendOwnNone
import Derived.Lib.AppendZerosOnto
import Derived.OwnWalk
namespace Go.Proofs.Ytgocmolebanflaa
open Go.RowKit

/-- A list that one has made oneself, behind all that was there. -/
def Own {α : Type} (t k : Nat) (enc : α → List Value) (B : Nat) (w : World) (v : Value) (l : List α) : Prop := w.ownsRow B t k v l.length (flat enc l)
/-- A type of things, and lists of them. -/
structure El {α : Type} (ts t k bs : Nat) (enc : α → List Value) : Prop where
  under : Try.prog.underlying ts = some (.slice t)
  info : ∃ it z, Try.prog.info? t = some it ∧ it.zero = some z ∧ it.size = k ∧ it.bytes = bs ∧ z.cells.size = k
  len : ∀ x, (enc x).length = k
  one : ∀ x, ∀ v ∈ enc x, v.oneCell' = true
  pos : 0 < k
theorem elR : El 31 34 20 48 rl := ⟨by kernel_rfl, by
  obtain ⟨it, h1, h2, h3, h4⟩ := info_all 34 _ _ _ info34
  exact ⟨it, _, h1, h2, h3, h4, rc_size zeroR⟩, rl_len, rl_one, by omega⟩
theorem elI : El 58 43 21 56 il := ⟨by kernel_rfl, by
  obtain ⟨it, h1, h2, h3, h4⟩ := info_all 43 _ _ _ info43
  exact ⟨it, _, h1, h2, h3, h4, ic_size zeroI⟩, il_len, il_one, by omega⟩

section
variable {α : Type} {ts t k bs : Nat} {enc : α → List Value}
theorem Own.nil (B : Nat) (w : World) : Own t k enc B w (.slice none 0 0) [] := World.ownsRow_nil w B t k
theorem Own.made (B : Nat) (w : World) (hb : B ≤ w.heap.size) : Own t k enc B (w.alloc (.cells #[] t)) (.slice (some ⟨w.heap.size, 0, none⟩) 0 0) [] := World.ownsRow_made w #[] 0 hb (Nat.zero_le _) (by simp)
theorem Own.row (E : El ts t k bs enc) {B : Nat} {w : World} {v : Value} {l : List α} (h : Own t k enc B w v l) : Row enc t w v l := (Row.owns E.len h E.pos).1
theorem Own.keep {B : Nat} {w w' : World} {v : Value} {l : List α} (h : Own t k enc B w v l) (hk : Keep w w') : Own t k enc B w' v l := by
  refine World.ownsRow.kept (row := none) h ⟨hk.1, hk.2, hk.3, hk.4, fun i hi _ => hk.5 i hi⟩ ?_
  cases hv : v.ownBlock with
  | none => exact .inl rfl
  | some g => exact .inr (by simp)
theorem Own.grown {B : Nat} {W w w' : World} {v : Value} {l : List α} (h : Own t k enc B w v l) (hW : Keep W w) (hB : W.heap.size ≤ B) (hg : w.grownBy w' v.ownBlock) : Keep W w' :=
  hW.grown hg fun i hi => Nat.le_trans hB (World.ownsRow.lt h i hi).1
theorem wp_app (E : El ts t k bs enc) {ops : Array Oper} {rest : List Oper} {o : Oper} {a : Act} {Q : Exit → Act → World → Prop} {w : World} (hgd : o.guard = none) (s x : Operand)
    (ho : o.op = .call { callee := .builtin .append, args := #[s, x], argTypes := #[ts, ts] }) (B : Nat) (v u : Value) (l m : List α) (hs : a.eval s = v) (hx : a.eval x = u) (hown : Own t k enc B w v l) (hsrc : Cells enc w u m)
    (hsm : (l.length + m.length) * bs ≤ 140737488355328) (hb : l.length + m.length ≤ 1000000) (hbase : B ≤ w.heap.size)
    (h : ∀ v' w', Own t k enc B w' v' (l ++ m) → w.grownBy w' v.ownBlock → wpList Try.prog ops Q rest (a.put o.dst v') w') : wpList Try.prog ops Q (o :: rest) a w := by
  obtain ⟨it, z, hi, hz, hsz, hby, hzs⟩ := E.info
  rcases hsrc with ⟨rfl, rfl⟩ | ⟨g, off, cap, rfl, h1, h2, h3, h4⟩
  · refine wpList_append_own_none hgd s x ts ho B t it k E.under hi v _ _ hs hown hx (h v w (by simpa using hown) ⟨rfl, rfl, rfl, Nat.le_refl _, fun _ _ _ => rfl⟩)
  · refine wpList_append_own w hgd s x ts ho B t it z k bs E.under hi hz hsz hby hzs E.pos v _ _ hs hown ⟨g, off, none⟩ m.length cap (flat enc m) hx (flat_len enc E.len m) ?_ (flat_one' E.one m) (by unfold maxLen; omega) hsm hbase ?_
    · intro j u hj
      rw [show (⟨g, off, none⟩ : Addr).add j = ⟨g, off + j, none⟩ from by unfold Addr.add; split <;> simp_all]
      exact h4 j u hj
    · intro v' w' k1 k2 _
      refine h v' w' ?_ k2
      unfold Own
      rw [flat_append, List.length_append]
      exact k1
end

set_option maxRecDepth 100000 in
theorem clone (v : Value) (l : List Rt) (w : World) (h : Cells rl w v l) (hl : l.length ≤ 1000000) : Calls Try.prog 35 #[v] w fun e w' => ∃ v', e = .returned v' ∧ Own 34 20 rl w.heap.size w' v' l ∧ Keep w w' := by
  have h0 := h
  rcases h with ⟨rfl, rfl⟩ | ⟨g, o, cap, rfl, h1, h2, h3, h4⟩
  · have he : ∀ w, (binOp .eql 31 (.slice none 0 0) (.slice none 0 0)).run Try.prog w = .ok (.bool true) w := fun w => Lib.run_eql_slice_nil w 31 34 none 0 0 0 0 (by kernel_rfl)
    clear h0
    go_enter Try.func35, Try.ntmps35
    go_wp2
    go_ret
    exact ⟨_, rfl, Own.nil _ _, Keep.refl _⟩
  · have he : ∀ w, (binOp .eql 31 (.slice (some ⟨g, o, none⟩) l.length cap) (.slice none 0 0)).run Try.prog w = .ok (.bool false) w := fun w => Lib.run_eql_slice_nil w 31 34 (some ⟨g, o, none⟩) l.length cap 0 0 (by kernel_rfl)
    have HK := Lib.hid ((Keep.refl w).alloc (.cells #[] 34))
    have HC := Lib.hid (h0.keep HK.out)
    have HO := Lib.hid (Own.made (t := 34) (k := 20) (enc := rl) w.heap.size w (Nat.le_refl _))
    have hsz : w.heap.size ≤ (w.alloc (.cells #[] 34)).heap.size := HK.out.size
    clear h0 h4
    go_enter Try.func35, Try.ntmps35
    go_wp2_with (at_builtin; refine wp_app elR rfl _ _ rfl w.heap.size _ _ [] l rfl rfl HO.out HC.out ?q1 ?q2 ?q3 ?_)
    case q1 => simp; omega
    case q2 => simp; omega
    case q3 => exact hsz
    intro v' w' k1 k2
    go_wp2
    go_ret
    exact ⟨_, rfl, k1, HO.out.grown HK.out (Nat.le_refl _) k2⟩
end Go.Proofs.Ytgocmolebanflaa
