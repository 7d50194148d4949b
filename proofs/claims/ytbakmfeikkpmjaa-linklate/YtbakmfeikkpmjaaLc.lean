/- Proved: a link in memory: its cells, the blocks that are its own, what stores make of it; what Len answers. Condition: lists are short enough for memory. -/
import Derived.Test.YtbakmfeikkpmjaaLb
import Derived.Deep.RegionLaw
namespace Go.Proofs.Ytbakmfeikkpmjaa
open Go.RowKit

/-- Nothing but some blocks, of what was there, may have turned. -/
structure Turn (K : List Nat) (w w' : World) : Prop where
  os : w'.os = w.os
  tape : w'.tape = w.tape
  output : w'.output = w.output
  size : w.heap.size ≤ w'.heap.size
  block : ∀ k, k < w.heap.size → k ∉ K → w'.heap[k]? = w.heap[k]?
/-- Blocks of the one's own, or new ones. -/
def More (w : World) (K K' : List Nat) : Prop := ∀ k ∈ K', k ∈ K ∨ w.heap.size ≤ k
def Apart (K L : List Nat) : Prop := ∀ k ∈ K, k ∉ L
def From (n : Nat) (K : List Nat) : Prop := ∀ k ∈ K, n ≤ k
def Upto' (n : Nat) (K : List Nat) : Prop := ∀ k ∈ K, k < n
section
variable {K K' L : List Nat} {u v w : World}
theorem Turn.refl (K : List Nat) (w : World) : Turn K w w := ⟨rfl, rfl, rfl, Nat.le_refl _, fun _ _ _ => rfl⟩
theorem Turn.trans (h : Turn K u v) (k : Turn K v w) : Turn K u w :=
  ⟨k.os.trans h.os, k.tape.trans h.tape, k.output.trans h.output, Nat.le_trans h.size k.size, fun i hi hb => (k.block i (Nat.lt_of_lt_of_le hi h.size) hb).trans (h.block i hi hb)⟩
theorem Turn.mono (h : Turn K u v) (hs : ∀ k, k ∈ K → k ∈ K') : Turn K' u v := ⟨h.os, h.tape, h.output, h.size, fun i hi hb => h.block i hi (fun hk => hb (hs i hk))⟩
/-- .. which may be new ones, too. -/
theorem Turn.more (h : Turn K' u v) (m : More u K K') : Turn K u v := ⟨h.os, h.tape, h.output, h.size, fun i hi hb => h.block i hi (fun hk => by
  rcases m i hk with h1 | h1
  · exact hb h1
  · omega)⟩
theorem Turn.keep (K : List Nat) (k : Keep u v) : Turn K u v := ⟨k.1, k.2, k.3, k.4, fun i hi _ => k.5 i hi⟩
theorem Turn.only {b : Nat} (k : Only b u v) (hb : b ∈ K) : Turn K u v := ⟨k.os, k.tape, k.output, k.size, fun i hi hk => k.block i hi (fun e => hk (by rw [e]; exact hb))⟩
theorem Turn.grow {row : Option Nat} (k : u.grownBy v row) (hb : ∀ g, row = some g → g ∈ K) : Turn K u v := ⟨k.os, k.tape, k.output, k.size, fun i hi hk => k.block i hi (fun e => hk (hb i e.symm))⟩
theorem Turn.made (h : Keep u v) (k : Turn K v w) (hb : From u.heap.size K) : Keep u w :=
  ⟨k.os.trans h.1, k.tape.trans h.2, k.output.trans h.3, Nat.le_trans h.size k.size, fun i hi => (k.block i (Nat.lt_of_lt_of_le hi h.size) (fun hk => by have := hb i hk; omega)).trans (h.block i hi)⟩
theorem Turn.obj {g : Nat} (k : Turn K u v) {o : Obj} (h : u.heap[g]? = some o) (hg : g ∉ K) : v.heap[g]? = some o := (k.block g (block_lt h) hg).trans h
theorem Turn.cells {α : Type} {enc : α → List Value} {x : Value} {l : List α} (k : Turn K u v) (h : Cells enc u x l) (hb : ∀ g, x.ownBlock = some g → g ∉ K) : Cells enc v x l :=
  h.block k.size fun g hg => k.block g (h.lt hg) (hb g hg)
theorem Qs.turn {B : Nat} {x : Value} {l : List (List UInt8)} (h : Qs B u x l) (k : Turn K u v) (hb : ∀ g, x.ownBlock = some g → g ∉ K) : Qs B v x l :=
  h.block k.size fun g hg => k.block g (h.low g hg).2 (hb g hg)
theorem More.trans {K'' : List Nat} (h : More u K K') (k : More v K' K'') (hs : u.heap.size ≤ v.heap.size) : More u K K'' := fun i hi => by
  rcases k i hi with h1 | h1
  · exact h i h1
  · exact .inr (by omega)
theorem More.same (w : World) (K : List Nat) : More w K K := fun _ h => .inl h
theorem More.of (hs : ∀ k ∈ K', k ∈ K) : More w K K' := fun k h => .inl (hs k h)
theorem More.back (h : More v K K') (hs : u.heap.size ≤ v.heap.size) : More u K K' := fun i hi => by
  rcases h i hi with h1 | h1
  · exact .inl h1
  · exact .inr (by omega)
theorem Apart.symm (h : Apart K L) : Apart L K := fun k hk hl => h k hl hk
theorem Apart.more (h : Apart K L) (m : More w K K') (hl : Upto' w.heap.size L) : Apart K' L := fun k hk hkl => by
  rcases m k hk with h1 | h1
  · exact h k h1 hkl
  · have := hl k hkl; omega
theorem Apart.from {n : Nat} (hk : Upto' n K) (hl : From n L) : Apart K L := fun k h1 h2 => by have := hk k h1; have := hl k h2; omega
theorem From.mono {n n' : Nat} (h : From n K) (hn : n' ≤ n) : From n' K := fun k hk => Nat.le_trans hn (h k hk)
end

/-- A call turned some blocks; then other ones are the one's own. -/
structure Mv (u : World) (K : List Nat) (w : World) (K' : List Nat) : Prop where
  turn : Turn K u w
  more : More u K K'
theorem Mv.then {u v w : World} {K K1 K2 : List Nat} (h : Mv u K v K1) (k : Mv v K1 w K2) : Mv u K w K2 :=
  ⟨⟨k.turn.os.trans h.turn.os, k.turn.tape.trans h.turn.tape, k.turn.output.trans h.turn.output, Nat.le_trans h.turn.size k.turn.size, fun i hi hb => (k.turn.block i (Nat.lt_of_lt_of_le hi h.turn.size) (fun hk => by
    rcases h.more i hk with h1 | h1
    · exact hb h1
    · omega)).trans (h.turn.block i hi hb)⟩, h.more.trans k.more h.turn.size⟩
theorem Mv.keep {u w : World} (K : List Nat) (k : Keep u w) : Mv u K w K := ⟨Turn.keep K k, More.same _ _⟩

/-- A call turned some blocks, of which some are still the one's own. -/
structure Sb (u : World) (K : List Nat) (w : World) (K' : List Nat) : Prop where
  turn : Turn K u w
  sub : ∀ k ∈ K', k ∈ K
theorem Sb.mv {u w : World} {K K' : List Nat} (h : Sb u K w K') : Mv u K w K' := ⟨h.turn, More.of h.sub⟩
theorem Sb.then {u v w : World} {K K1 K2 : List Nat} (h : Sb u K v K1) (k : Sb v K1 w K2) : Sb u K w K2 :=
  ⟨h.turn.trans (k.turn.mono h.sub), fun i hi => h.sub i (k.sub i hi)⟩
theorem Sb.keep {u w : World} (K : List Nat) (k : Keep u w) : Sb u K w K := ⟨Turn.keep K k, fun _ h => h⟩

/-! ### A link -/
abbrev Texts := List (List UInt8)
structure LAt (w : World) (b : Nat) (vw vl : Value) (W T : Texts) : Prop where
  block : w.heap[b]? = some (.cells #[vw, vl] 41 (0, 0))
  way : Qs (b + 1) w vw W
  late : Qs (b + 1) w vl T
  ap : ∀ g, vw.ownBlock = some g → vl.ownBlock ≠ some g
def blk (b : Nat) (vw vl : Value) : List Nat := b :: (vw.ownBlock.toList ++ vl.ownBlock.toList)
theorem in_b {b : Nat} {vw vl : Value} : b ∈ blk b vw vl := by simp [blk]
theorem in_w {b : Nat} {vw vl : Value} {g : Nat} (h : vw.ownBlock = some g) : g ∈ blk b vw vl := by simp [blk, h]
theorem in_l {b : Nat} {vw vl : Value} {g : Nat} (h : vl.ownBlock = some g) : g ∈ blk b vw vl := by simp [blk, h]
theorem blk_cases {b k : Nat} {vw vl : Value} (h : k ∈ blk b vw vl) : k = b ∨ vw.ownBlock = some k ∨ vl.ownBlock = some k := by
  simpa [blk] using h
section
variable {w w' : World} {b : Nat} {vw vl : Value} {W T : Texts}
theorem LAt.low (h : LAt w b vw vl W T) : Upto' w.heap.size (blk b vw vl) := fun k hk => by
  rcases blk_cases hk with rfl | h1 | h1
  · exact block_lt h.block
  · exact (h.way.low k h1).2
  · exact (h.late.low k h1).2
theorem LAt.from (h : LAt w b vw vl W T) : From b (blk b vw vl) := fun k hk => by
  rcases blk_cases hk with rfl | h1 | h1
  · exact Nat.le_refl _
  · have := (h.way.low k h1).1; omega
  · have := (h.late.low k h1).1; omega
theorem LAt.keep (h : LAt w b vw vl W T) (k : Keep w w') : LAt w' b vw vl W T := ⟨k.obj h.block, h.way.keep k, h.late.keep k, h.ap⟩
theorem LAt.turn {K : List Nat} (h : LAt w b vw vl W T) (k : Turn K w w') (ha : Apart (blk b vw vl) K) : LAt w' b vw vl W T :=
  ⟨k.obj h.block (ha _ in_b), h.way.turn k fun _ hg => ha _ (in_w hg), h.late.turn k fun _ hg => ha _ (in_l hg), h.ap⟩
theorem LAt.new (w : World) : LAt (w.alloc (.cells #[.slice none 0 0, .slice none 0 0] 41)) w.heap.size (.slice none 0 0) (.slice none 0 0) [] [] :=
  ⟨heap_alloc_last w _, Qs.nil _ _, Qs.nil _ _, fun g h => by simp [Value.ownBlock] at h⟩
theorem LAt.cway (h : LAt w b vw vl W T) : w.cell? ⟨b, 0, none⟩ = some vw := cell_obj h.block rfl
theorem LAt.clate (h : LAt w b vw vl W T) : w.cell? ⟨b, 1, none⟩ = some vl := cell_obj h.block rfl
theorem LAt.free (h : LAt w b vw vl W T) (i : Nat) : w.frozen? ⟨b, i, none⟩ = false := by simp [World.frozen?, h.block]
theorem LAt.lt (h : LAt w b vw vl W T) : b < w.heap.size := block_lt h.block
theorem LAt.at_grown (h : LAt w b vw vl W T) {row : Option Nat} (k : w.grownBy w' row) (hr : ∀ g, row = some g → b < g) : w'.heap[b]? = some (.cells #[vw, vl] 41 (0, 0)) :=
  (k.block b h.lt (fun e => by have := hr b e.symm; omega)).trans h.block
/-- A list that grew is stored. -/
theorem LAt.setWay {w1 : World} {H : Nat} {v : Value} {W1 : Texts} (h : LAt w b vw vl W T) (hq : Qs (b + 1) w1 v W1) (k : w.grownBy w1 vw.ownBlock) (ha : v.ownBlock = vw.ownBlock ∨ ∀ g, v.ownBlock = some g → H ≤ g) (hH : w.heap.size ≤ H) :
    LAt (w1.setCell ⟨b, 0, none⟩ v) b v vl W1 T ∧ Turn (blk b vw vl) w (w1.setCell ⟨b, 0, none⟩ v) ∧ More w (blk b vw vl) (blk b v vl) := by
  have o := Only.setCell b 0 w1 v
  have hb := h.at_grown k fun g hg => by have := (h.way.low g hg).1; omega
  refine ⟨⟨by have := block_set hb 0 v; simpa using this, hq.only o (by omega), (h.late.beside k fun g hg e => h.ap g e hg).only o (by omega), fun g hg => ?_⟩, (Turn.grow k fun g hg => in_w hg).trans (Turn.only o in_b), fun i hi => ?_⟩
  · rcases ha with e | e
    · rw [e] at hg; exact h.ap g hg
    · intro hl
      have := e g hg
      have := (h.late.low g hl).2
      omega
  · rcases blk_cases hi with rfl | h1 | h1
    · exact .inl in_b
    · rcases ha with e | e
      · rw [e] at h1; exact .inl (in_w h1)
      · exact .inr (Nat.le_trans hH (e i h1))
    · exact .inl (in_l h1)
theorem LAt.setLate {w1 : World} {H : Nat} {v : Value} {T1 : Texts} (h : LAt w b vw vl W T) (hq : Qs (b + 1) w1 v T1) (k : w.grownBy w1 vl.ownBlock) (ha : v.ownBlock = vl.ownBlock ∨ ∀ g, v.ownBlock = some g → H ≤ g) (hH : w.heap.size ≤ H) :
    LAt (w1.setCell ⟨b, 1, none⟩ v) b vw v W T1 ∧ Turn (blk b vw vl) w (w1.setCell ⟨b, 1, none⟩ v) ∧ More w (blk b vw vl) (blk b vw v) := by
  have o := Only.setCell b 1 w1 v
  have hb := h.at_grown k fun g hg => by have := (h.late.low g hg).1; omega
  refine ⟨⟨by have := block_set hb 1 v; simpa using this, (h.way.beside k fun g hg e => h.ap g hg e).only o (by omega), hq.only o (by omega), fun g hg => ?_⟩, (Turn.grow k fun g hg => in_l hg).trans (Turn.only o in_b), fun i hi => ?_⟩
  · intro hl
    rcases ha with e | e
    · rw [e] at hl; exact h.ap g hg hl
    · have := e g hl
      have := (h.way.low g hg).2
      omega
  · rcases blk_cases hi with rfl | h1 | h1
    · exact .inl in_b
    · exact .inl (in_w h1)
    · rcases ha with e | e
      · rw [e] at h1; exact .inl (in_l h1)
      · exact .inr (Nat.le_trans hH (e i h1))
/-- .. behind what has turned nothing. -/
theorem LAt.grew {y v w1 : World} {x : Value} {W1 : Texts} {H : Nat} (h : LAt y b vw vl W T) (k : Keep y v) (hq : Qs (b + 1) w1 x W1) (g : v.grownBy w1 vw.ownBlock) (ha : x.ownBlock = vw.ownBlock ∨ ∀ g, x.ownBlock = some g → H ≤ g) (hH : v.heap.size ≤ H) :
    LAt (w1.setCell ⟨b, 0, none⟩ x) b x vl W1 T ∧ Turn (blk b vw vl) y (w1.setCell ⟨b, 0, none⟩ x) ∧ More y (blk b vw vl) (blk b x vl) := by
  obtain ⟨a, c, d⟩ := (h.keep k).setWay hq g ha hH
  exact ⟨a, (Turn.keep _ k).trans c, d.back k.size⟩
theorem LAt.seen {y v w1 : World} (h : LAt y b vw vl W T) (k : Keep y v) (g : v.grownBy w1 vw.ownBlock) : w1.cell? ⟨b, 0, none⟩ = some vw ∧ w1.frozen? ⟨b, 0, none⟩ = false := by
  have hb := (h.keep k).at_grown g fun i e => by have := (h.way.low i e).1; omega
  exact ⟨cell_obj hb rfl, by simp [World.frozen?, hb]⟩
/-- None is late any more. -/
theorem LAt.noLate (h : LAt w b vw vl W T) : LAt (w.setCell ⟨b, 1, none⟩ (.slice none 0 0)) b vw (.slice none 0 0) W [] ∧ Turn (blk b vw vl) w (w.setCell ⟨b, 1, none⟩ (.slice none 0 0)) ∧ More w (blk b vw vl) (blk b vw (.slice none 0 0)) := by
  have o := Only.setCell b 1 w (.slice none 0 0)
  refine ⟨⟨by have := block_set h.block 1 (.slice none 0 0); simpa using this, h.way.only o (by omega), Qs.nil _ _, fun g _ e => by simp [Value.ownBlock] at e⟩, Turn.only o in_b, fun i hi => ?_⟩
  rcases blk_cases hi with rfl | h1 | h1
  · exact .inl in_b
  · exact .inl (in_w h1)
  · simp [Value.ownBlock] at h1

/-- A link lies in block b, with what is its own in the blocks K. -/
def Lk (w : World) (K : List Nat) (b : Nat) (W T : Texts) : Prop := ∃ vw vl, K = blk b vw vl ∧ LAt w b vw vl W T
variable {K L : List Nat}
theorem Lk.keep (h : Lk w K b W T) (k : Keep w w') : Lk w' K b W T := by
  obtain ⟨vw, vl, e, h⟩ := h
  exact ⟨vw, vl, e, h.keep k⟩
theorem Lk.turn (h : Lk w K b W T) (k : Turn L w w') (ha : Apart K L) : Lk w' K b W T := by
  obtain ⟨vw, vl, rfl, h⟩ := h
  exact ⟨vw, vl, rfl, h.turn k ha⟩
theorem Lk.low (h : Lk w K b W T) : Upto' w.heap.size K := by
  obtain ⟨vw, vl, rfl, h⟩ := h
  exact h.low
theorem Lk.from (h : Lk w K b W T) : From b K := by
  obtain ⟨vw, vl, rfl, h⟩ := h
  exact h.from

set_option maxRecDepth 100000 in
theorem lnew (w : World) : Calls Try.prog 13 #[] w fun e w' => ∃ b K, e = .returned (.pointer (some ⟨b, 0, none⟩)) ∧ Lk w' K b [] [] ∧ From w.heap.size K ∧ Keep w w' := by
  refine (new_at w).mono ?_
  rintro e w' ⟨rfl, rfl⟩
  exact ⟨_, _, rfl, ⟨_, _, rfl, LAt.new w⟩, (LAt.new w).from, (Keep.refl w).alloc _⟩
set_option maxRecDepth 100000 in
theorem len_nil (w : World) : Calls Try.prog 11 #[.pointer none] w fun e w' => e = .returned (.int .i64 0) ∧ w' = w := by
  go_enter Try.func11, Try.ntmps11
  go_wp2
  go_ret
  exact ⟨rfl, rfl⟩
set_option maxRecDepth 100000 in
theorem llen (h : Lk w K b W T) (hs : W.length + T.length ≤ 1000000) : Calls Try.prog 11 #[.pointer (some ⟨b, 0, none⟩)] w fun e w' => e = .returned (.int .i64 (W.length + T.length : Nat)) ∧ Keep w w' := by
  obtain ⟨vw, vl, _, h⟩ := h
  obtain ⟨a1, c1, rfl, _, _⟩ := h.way.cells.form
  obtain ⟨a2, c2, rfl, _, _⟩ := h.late.cells.form
  have d1 : ∀ u : KW w, u.1.cell? ⟨b, 0, none⟩ = some (.slice a1 W.length c1) := fun u => (h.keep u.2).cway
  have d2 : ∀ u : KW w, u.1.cell? ⟨b, 1, none⟩ = some (.slice a2 T.length c2) := fun u => (h.keep u.2).clate
  clear h
  generalize W.length = m at *
  generalize T.length = n at *
  have e8 : IntKind.i64.wrap ((m : Int) + (n : Int)) = ((m + n : Nat) : Int) := by simp [IntKind.wrap, IntKind.bits, IntKind.signed]; omega
  go_enter Try.func11, Try.ntmps11
  go_wp2_with fail
  refine wp_region_keep (Keep.refl _) (by kernel_rfl) (by kernel_rfl) ?_
  repeat (first | go_big_quiet_step (fail) | quiet_step (fail))
  refine wpQuiet_nil ?_
  rintro w6 ⟨⟨w7, b7⟩, hw6⟩
  obtain rfl : w7 = w6 := hw6.symm
  clear hw6 d1 d2
  go_wp2
  go_ret
  exact ⟨rfl, b7⟩
end
end Go.Proofs.Ytbakmfeikkpmjaa
