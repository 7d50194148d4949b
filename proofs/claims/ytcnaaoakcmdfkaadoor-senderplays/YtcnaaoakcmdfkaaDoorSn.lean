/- Proved: plain mathematics of senders, with no program in it: which chunks are due, what a tick sends, what an answer tells. No condition. -/
import Derived.Test.YtcnaaoakcmdfkaaDoorSp
import Derived.Test.YtcnaaoakcmdfkaaDoorSq
namespace Go.Proofs.YtcnaaoakcmdfkaaDoor

/-- A chunk: its text, how often it was sent, at which tick last. -/
structure Ck where
  data : List UInt8
  tries : Nat
  last : Nat
def zeroC : Ck := ⟨[], 0, 0⟩
/-- A frame. -/
structure Fr where
  kind : Int
  ses : Int
  ep : Int
  idx : Int
  tot : Int
  data : List UInt8
theorem Fr.ext' {a b : Fr} (h1 : a.kind = b.kind) (h2 : a.ses = b.ses) (h3 : a.ep = b.ep) (h4 : a.idx = b.idx) (h5 : a.tot = b.tot) (h6 : a.data = b.data) : a = b := by
  cases a; cases b; simp at *; exact ⟨h1, h2, h3, h4, h5, h6⟩
theorem Fr.iff (a b : Fr) : a = b ↔ a.kind = b.kind ∧ a.ses = b.ses ∧ a.ep = b.ep ∧ a.idx = b.idx ∧ a.tot = b.tot ∧ a.data = b.data :=
  ⟨fun h => by rw [h]; exact ⟨rfl, rfl, rfl, rfl, rfl, rfl⟩, fun h => Fr.ext' h.1 h.2.1 h.2.2.1 h.2.2.2.1 h.2.2.2.2.1 h.2.2.2.2.2⟩
instance : DecidableEq Fr := fun a b => decidable_of_iff _ (Fr.iff a b).symm
def zeroF : Fr := ⟨0, 0, 0, 0, 0, []⟩
instance : Inhabited Fr := ⟨zeroF⟩
/-- A sender. -/
structure Sd where
  ses : Int
  ep : Int
  ch : List Ck
  l : List Bool
  now : Nat
  lost : Bool
def Sd.at (s : Sd) (i : Nat) : Ck := s.ch.getD i zeroC
/-- Never sent, or four ticks ago, or more. -/
def Sd.fresh (s : Sd) (i : Nat) : Bool := decide ((s.at i).tries = 0) || decide ((s.at i).last + 4 ≤ s.now)
/-- The window's chunks that aren't there; those of them that are due. -/
def Sd.win (s : Sd) : List Nat := misL s.l (baseN s.l : Int) ((baseN s.l : Int) + 8)
def Sd.due (s : Sd) : List Nat := s.win.filter s.fresh
def Sd.on (s : Sd) : Sd := { s with now := s.now + 1 }
def Sd.gone (s : Sd) : Sd := { s with lost := true }
/-- A chunk is sent. -/
def Sd.put (s : Sd) (i : Nat) : Sd := { s with ch := s.ch.set i ⟨(s.at i).data, (s.at i).tries + 1, s.now⟩ }
def Sd.puts (s : Sd) (D : List Nat) : Sd := D.foldl Sd.put s
def Sd.frame (s : Sd) (i : Nat) : Fr := ⟨1, s.ses, s.ep, i, s.ch.length, (s.at i).data⟩
def Sd.over (s : Sd) (i : Nat) : Bool := decide (8 ≤ (s.at i).tries)
def Sd.full (s : Sd) : Prop := baseN s.l = s.l.length
instance (s : Sd) : Decidable s.full := inferInstanceAs (Decidable (_ = _))
/-- A tick: the sender behind it, what is sent, the error. -/
def Sd.tick (s : Sd) : Sd := if s.full then s else if s.lost = true then s else if s.on.due.any s.on.over = true then s.on.gone else s.on.puts s.on.due
def Sd.tickF (s : Sd) : List Fr := if s.full then [] else if s.lost = true then [] else if s.on.due.any s.on.over = true then [] else s.on.due.map s.on.frame
def Sd.tickE (s : Sd) : Nat := if s.full then 15 else if s.lost = true then 16 else if s.on.due.any s.on.over = true then 16 else 0
/-- An answer: the error, the sender behind it. -/
def Sd.ackE (s : Sd) (f : Fr) : Nat := if f.kind ≠ 2 then 1 else if f.ses ≠ s.ses then 12 else if f.ep ≠ s.ep then 13 else if f.tot ≠ s.ch.length ∨ f.idx < 0 ∨ f.tot < f.idx then 14 else 0
def Sd.ack (s : Sd) (f : Fr) : Sd := if s.ackE f = 0 then { s with l := merL s.l f.idx f.data } else s
def Sd.err (s : Sd) : Nat := if s.lost = true then 16 else if s.full then 15 else 0
def Sd.tries (s : Sd) (i : Int) : Nat := if 0 ≤ i then (s.at i.toNat).tries else 0
def newS (a b : Int) (L : List (List UInt8)) : Sd := ⟨a, b, L.map fun t => ⟨t, 0, 0⟩, List.replicate L.length false, 0, false⟩
/-- What a sender may be made of. -/
def mayP (a b : Int) (L : List (List UInt8)) : Prop := (∀ t ∈ L, t.length ≤ 1000) ∧ (0 ≤ a ∧ a < 4294967296) ∧ (0 ≤ b ∧ b < 4294967296) ∧ 1 ≤ L.length ∧ L.length ≤ 256
instance (a b : Int) (L : List (List UInt8)) : Decidable (mayP a b L) := inferInstanceAs (Decidable (_ ∧ _))

/-- What holds of every sender that was made. -/
structure Good (s : Sd) : Prop where
  len : s.l.length = s.ch.length
  pos : 1 ≤ s.ch.length
  few : s.ch.length ≤ 256
  tries : ∀ i, (s.at i).tries ≤ 8
  last : ∀ i, (s.at i).last ≤ s.now

theorem at_in {s : Sd} {i : Nat} (h : i < s.ch.length) : s.ch[i]? = some (s.at i) := by
  unfold Sd.at
  rw [List.getD_eq_getElem?_getD, List.getElem?_eq_getElem h]; rfl
theorem at_out {s : Sd} {i : Nat} (h : s.ch.length ≤ i) : s.at i = zeroC := by
  unfold Sd.at
  rw [List.getD_eq_getElem?_getD, List.getElem?_eq_none h]; rfl
theorem Good.new (a b : Int) (L : List (List UInt8)) (h1 : 1 ≤ L.length) (h2 : L.length ≤ 256) : Good (newS a b L) := by
  have ht : ∀ i, ((newS a b L).at i).tries = 0 ∧ ((newS a b L).at i).last = 0 := fun i => by
    by_cases hi : i < L.length
    · have := at_in (s := newS a b L) (i := i) (by simpa [newS] using hi)
      simp only [newS, List.getElem?_map, List.getElem?_eq_getElem hi, Option.map_some, Option.some.injEq] at this
      have h := this.symm
      unfold newS
      rw [h]
      exact ⟨rfl, rfl⟩
    · rw [at_out (by simpa [newS] using hi)]
      exact ⟨rfl, rfl⟩
  exact ⟨by simp [newS], by simpa [newS] using h1, by simpa [newS] using h2, fun i => by rw [(ht i).1]; omega, fun i => by rw [(ht i).2]; omega⟩
theorem new_at_tries (a b : Int) (L : List (List UInt8)) (i : Nat) : ((newS a b L).at i).tries = 0 ∧ ((newS a b L).at i).last = 0 := by
  by_cases hi : i < L.length
  · have := at_in (s := newS a b L) (i := i) (by simpa [newS] using hi)
    simp only [newS, List.getElem?_map, List.getElem?_eq_getElem hi, Option.map_some, Option.some.injEq] at this
    have h := this.symm
    unfold newS
    rw [h]
    exact ⟨rfl, rfl⟩
  · rw [at_out (by simpa [newS] using hi)]
    exact ⟨rfl, rfl⟩
theorem new_data (a b : Int) (L : List (List UInt8)) (i : Nat) (t : List UInt8) (h : L[i]? = some t) : ((newS a b L).at i).data = t := by
  have hi := (List.getElem?_eq_some_iff.1 h).1
  have := at_in (s := newS a b L) (i := i) (by simpa [newS] using hi)
  simp only [newS, List.getElem?_map, h, Option.map_some, Option.some.injEq] at this
  unfold newS
  rw [← this]

/-! ### What is due -/
theorem win_mem (s : Sd) (i : Nat) : i ∈ s.win ↔ i < s.l.length ∧ baseN s.l ≤ i ∧ i < baseN s.l + 8 ∧ s.l.getD i false = false := by
  unfold Sd.win
  rw [mis_mem]
  unfold misP
  simp only [Bool.and_eq_true, decide_eq_true_eq, Bool.not_eq_true']
  constructor
  · rintro ⟨h1, h2, h3, h4⟩; exact ⟨h1, by omega, by omega, h4⟩
  · rintro ⟨h1, h2, h3, h4⟩; exact ⟨h1, by omega, by omega, h4⟩
theorem due_mem (s : Sd) (i : Nat) : i ∈ s.due ↔ (i < s.l.length ∧ baseN s.l ≤ i ∧ i < baseN s.l + 8 ∧ s.l.getD i false = false) ∧ s.fresh i = true := by
  unfold Sd.due
  rw [List.mem_filter, win_mem]
theorem due_nodup (s : Sd) : s.due.Nodup := List.Pairwise.filter _ (mis_nodup _ _ _)
theorem win_len (s : Sd) : s.win.length ≤ s.l.length := misK_len _ _ _ _
theorem due_len (s : Sd) : s.due.length ≤ s.l.length := Nat.le_trans (List.length_filter_le _ _) (win_len s)
theorem filter_take {α : Type} (p : α → Bool) (l : List α) (k : Nat) (x : α) (h : l[k]? = some x) : (l.take (k + 1)).filter p = (l.take k).filter p ++ (if p x = true then [x] else []) := by
  rw [List.take_add_one, h, Option.toList_some, List.filter_append]
  congr 1
  by_cases hp : p x = true
  · simp [hp]
  · simp [hp]

/-! ### What is sent -/
theorem put_ses (s : Sd) (i : Nat) : (s.put i).ses = s.ses ∧ (s.put i).ep = s.ep ∧ (s.put i).l = s.l ∧ (s.put i).now = s.now ∧ (s.put i).lost = s.lost ∧ (s.put i).ch.length = s.ch.length := ⟨rfl, rfl, rfl, rfl, rfl, by simp [Sd.put]⟩
theorem put_at (s : Sd) (i j : Nat) (hi : i < s.ch.length) : (s.put i).at j = if j = i then ⟨(s.at i).data, (s.at i).tries + 1, s.now⟩ else s.at j := by
  have e : (s.put i).ch = s.ch.set i ⟨(s.at i).data, (s.at i).tries + 1, s.now⟩ := rfl
  unfold Sd.at at *
  rw [e, List.getD_eq_getElem?_getD, List.getElem?_set]
  by_cases h : i = j
  · subst h; simp [hi]
  · rw [if_neg h, if_neg (Ne.symm h), ← List.getD_eq_getElem?_getD]
theorem put_data (s : Sd) (i j : Nat) (hi : i < s.ch.length) : ((s.put i).at j).data = (s.at j).data := by
  rw [put_at s i j hi]
  split
  · rename_i h; rw [h]
  · rfl
theorem puts_nil (s : Sd) : s.puts [] = s := rfl
theorem puts_snoc (s : Sd) (D : List Nat) (i : Nat) : s.puts (D ++ [i]) = (s.puts D).put i := by simp [Sd.puts]
theorem puts_take (s : Sd) (D : List Nat) (k i : Nat) (h : D[k]? = some i) : s.puts (D.take (k + 1)) = (s.puts (D.take k)).put i := by
  rw [List.take_add_one, h, Option.toList_some, puts_snoc]
theorem puts_ses (s : Sd) : ∀ D, (s.puts D).ses = s.ses ∧ (s.puts D).ep = s.ep ∧ (s.puts D).l = s.l ∧ (s.puts D).now = s.now ∧ (s.puts D).lost = s.lost ∧ (s.puts D).ch.length = s.ch.length := by
  intro D
  induction D generalizing s with
  | nil => exact ⟨rfl, rfl, rfl, rfl, rfl, rfl⟩
  | cons i D ih =>
    obtain ⟨h1, h2, h3, h4, h5, h6⟩ := ih (s.put i)
    obtain ⟨g1, g2, g3, g4, g5, g6⟩ := put_ses s i
    exact ⟨h1.trans g1, h2.trans g2, h3.trans g3, h4.trans g4, h5.trans g5, h6.trans g6⟩
theorem puts_data (s : Sd) : ∀ D, (∀ i ∈ D, i < s.ch.length) → ∀ j, ((s.puts D).at j).data = (s.at j).data := by
  intro D
  induction D generalizing s with
  | nil => intro _ j; rfl
  | cons i D ih =>
    intro h j
    have := ih (s.put i) (fun x hx => by rw [(put_ses s i).2.2.2.2.2]; exact h x (by simp [hx])) j
    exact this.trans (put_data s i j (h i (by simp)))
theorem puts_at (s : Sd) : ∀ D, D.Nodup → (∀ i ∈ D, i < s.ch.length) → ∀ j, (s.puts D).at j = if j ∈ D then ⟨(s.at j).data, (s.at j).tries + 1, s.now⟩ else s.at j := by
  intro D
  induction D generalizing s with
  | nil => intro _ _ j; simp [puts_nil]
  | cons i D ih =>
    intro hn h j
    rw [List.nodup_cons] at hn
    have := ih (s.put i) hn.2 (fun x hx => by rw [(put_ses s i).2.2.2.2.2]; exact h x (by simp [hx])) j
    have e : s.puts (i :: D) = (s.put i).puts D := rfl
    rw [e, this, put_at s i j (h i (by simp)), (put_ses s i).2.2.2.1]
    by_cases hj : j = i
    · subst hj
      rw [if_neg hn.1, if_pos rfl, if_pos (by simp)]
    · rw [if_neg hj]
      by_cases hm : j ∈ D
      · rw [if_pos hm, if_pos (by simp [hm])]
      · rw [if_neg hm, if_neg (by simp [hj, hm])]
theorem frame_eq {s t : Sd} (h1 : t.ses = s.ses) (h2 : t.ep = s.ep) (h3 : t.ch.length = s.ch.length) (i : Nat) (h4 : (t.at i).data = (s.at i).data) : t.frame i = s.frame i := by
  unfold Sd.frame
  rw [h1, h2, h3, h4]
theorem puts_frame (s : Sd) (D : List Nat) (h : ∀ i ∈ D, i < s.ch.length) (i : Nat) : (s.puts D).frame i = s.frame i := by
  obtain ⟨h1, h2, _, _, _, h6⟩ := puts_ses s D
  exact frame_eq h1 h2 h6 i (puts_data s D h i)

/-! ### What stays true -/
theorem Good.on {s : Sd} (h : Good s) : Good s.on := ⟨h.len, h.pos, h.few, h.tries, fun i => Nat.le_succ_of_le (h.last i)⟩
theorem Good.gone {s : Sd} (h : Good s) : Good s.gone := ⟨h.len, h.pos, h.few, h.tries, h.last⟩
theorem Good.due {s : Sd} (h : Good s) : ∀ i ∈ s.due, i < s.ch.length := fun i hi => by
  have := ((due_mem s i).1 hi).1.1
  rw [h.len] at this
  exact this
theorem Good.win {s : Sd} (h : Good s) : ∀ i ∈ s.win, i < s.ch.length := fun i hi => by
  have := ((win_mem s i).1 hi).1
  rw [h.len] at this
  exact this
theorem Good.puts {s : Sd} (h : Good s) (D : List Nat) (hn : D.Nodup) (hd : ∀ i ∈ D, i < s.ch.length) (ho : ∀ i ∈ D, s.over i = false) : Good (s.puts D) := by
  obtain ⟨h1, h2, h3, h4, h5, h6⟩ := puts_ses s D
  refine ⟨by rw [h3, h6]; exact h.len, by rw [h6]; exact h.pos, by rw [h6]; exact h.few, fun j => ?_, fun j => ?_⟩
  · rw [puts_at s D hn hd j]
    split
    · rename_i hj
      have := ho j hj
      unfold Sd.over at this
      rw [decide_eq_false_iff_not] at this
      show (s.at j).tries + 1 ≤ 8
      omega
    · exact h.tries j
  · rw [h4, puts_at s D hn hd j]
    split
    · exact Nat.le_refl _
    · exact h.last j
theorem any_false {α : Type} {p : α → Bool} {l : List α} (h : ¬ l.any p = true) : ∀ x ∈ l, p x = false := fun x hx => by
  cases hp : p x
  · rfl
  · exact absurd (List.any_eq_true.2 ⟨x, hx, hp⟩) h
theorem Good.tick {s : Sd} (h : Good s) : Good s.tick := by
  unfold Sd.tick
  split
  · exact h
  · split
    · exact h
    · split
      · exact h.on.gone
      · rename_i ho
        exact h.on.puts _ (due_nodup _) h.on.due (any_false ho)
theorem Good.ack {s : Sd} (h : Good s) (f : Fr) : Good (s.ack f) := by
  unfold Sd.ack
  split
  · exact ⟨by show (merL _ _ _).length = _; rw [merL_len]; exact h.len, h.pos, h.few, h.tries, h.last⟩
  · exact h
theorem tick_now (s : Sd) : s.tick.now ≤ s.now + 1 := by
  unfold Sd.tick
  split
  · omega
  · split
    · omega
    · split
      · exact Nat.le_refl _
      · rw [(puts_ses _ _).2.2.2.1]; exact Nat.le_refl _
theorem ack_now (s : Sd) (f : Fr) : (s.ack f).now = s.now := by unfold Sd.ack; split <;> rfl
theorem tick_ses (s : Sd) : s.tick.ses = s.ses ∧ s.tick.ep = s.ep ∧ s.tick.l = s.l ∧ s.tick.ch.length = s.ch.length := by
  unfold Sd.tick
  split
  · exact ⟨rfl, rfl, rfl, rfl⟩
  · split
    · exact ⟨rfl, rfl, rfl, rfl⟩
    · split
      · exact ⟨rfl, rfl, rfl, rfl⟩
      · obtain ⟨h1, h2, h3, _, _, h6⟩ := puts_ses s.on s.on.due
        exact ⟨h1, h2, h3, h6⟩
theorem ack_ses (s : Sd) (f : Fr) : (s.ack f).ses = s.ses ∧ (s.ack f).ep = s.ep ∧ (s.ack f).ch = s.ch ∧ (s.ack f).l.length = s.l.length := by
  unfold Sd.ack
  split
  · exact ⟨rfl, rfl, rfl, merL_len _ _ _⟩
  · exact ⟨rfl, rfl, rfl, rfl⟩
theorem tick_data {s : Sd} (h : Good s) (j : Nat) : (s.tick.at j).data = (s.at j).data := by
  unfold Sd.tick
  split
  · rfl
  · split
    · rfl
    · split
      · rfl
      · rw [puts_data s.on _ h.on.due j]; rfl
end Go.Proofs.YtcnaaoakcmdfkaaDoor
