/- Proved: plain mathematics of receivers, with no program in it: what is wrong with a frame, what is taken, what is told; a cursor's bytes, and the receiver of bytes; what is written is read as it was, and no other bytes are. No condition but those where they stand. -/
import Derived.Test.YtifcibmpeolmdaaDoorSq
import Derived.Test.YtifcibmpeolmdaaDoorVv
namespace Go.Proofs.YtifcibmpeolmdaaDoor.V

/-! ### Numbers and texts, the other way round -/
theorem uintL_back (f : Nat) : ∀ (k m : Nat) (l : List UInt8) (v : Nat) (r : List UInt8), f + k = 10 → 0 < f → uintL f k m l 0 = (v, r, 0) → ∃ n, l = enc n ++ r ∧ v = m + n * 2 ^ (7 * k) ∧ (0 < k → 0 < n) := by
  induction f with
  | zero => intro k m l v r _ h0; omega
  | succ f ih =>
    intro k m l v r hk _ h
    cases l with
    | nil => rw [uintL_nil] at h; simp at h
    | cons c t =>
      rw [uintL_cons] at h
      split at h
      · simp at h
      · rename_i hno
        split at h
        · rename_i hc
          simp only [Prod.mk.injEq, and_true] at h
          refine ⟨c.toNat, ?_, ?_, fun h0 => ?_⟩
          · rw [enc_lt _ hc, ← h.2]
            simp
          · rw [← h.1, Nat.mod_eq_of_lt hc]
          · rcases Nat.eq_zero_or_pos c.toNat with h1 | h1
            · exact absurd (.inl ⟨h0, h1⟩) hno
            · exact h1
        · rename_i hc
          have hk9 : k ≠ 9 := fun e => hno (.inr ⟨e, by omega⟩)
          obtain ⟨n, h1, h2, h3⟩ := ih (k + 1) _ t v r (by omega) (by omega) h
          have hn := h3 (by omega)
          have hlt : c.toNat < 256 := c.toNat_lt
          refine ⟨c.toNat % 128 + 128 * n, ?_, ?_, fun _ => by omega⟩
          · rw [enc_ge _ (by omega), show (c.toNat % 128 + 128 * n) % 128 = c.toNat % 128 by omega, show (c.toNat % 128 + 128 * n) / 128 = n by omega, show c.toNat % 128 + 128 = c.toNat by omega, h1]
            simp
          · rw [h2, show 7 * (k + 1) = 7 * k + 7 by omega, Nat.pow_add, Nat.add_mul]
            rw [show 128 * n * 2 ^ (7 * k) = n * (2 ^ (7 * k) * 2 ^ 7) by rw [Nat.mul_comm 128 n, Nat.mul_assoc, Nat.mul_comm 128]]
            omega
theorem uintF_back {l : List UInt8} {v : Nat} {r : List UInt8} (h : uintF l 0 = (v, r, 0)) : l = enc v ++ r := by
  obtain ⟨n, h1, h2, _⟩ := uintL_back 10 0 0 l v r rfl (by omega) h
  simp at h2
  rw [h2]
  exact h1
/-- A text's bytes. -/
def tx (t : List UInt8) : List UInt8 := enc t.length ++ t
theorem rawF_ok (t r : List UInt8) : rawF (t ++ r) 0 t.length = (t, r, 0) := by
  unfold rawF
  rw [if_neg (by simp), if_neg (by omega), if_neg (by simp; omega)]
  simp
theorem textF_ok {t : List UInt8} (r : List UInt8) {most : Int} (h : (t.length : Int) ≤ most) (h2 : t.length < 2 ^ 64) : textF (tx t ++ r) 0 most = (t, r, 0) := by
  unfold textF tx
  rw [List.append_assoc, uintF_enc _ _ h2]
  simp only [ne_eq, not_true, if_false]
  rw [if_neg (by omega)]
  exact rawF_ok t r
theorem textF_back {l t r : List UInt8} {most : Int} (h : textF l 0 most = (t, r, 0)) : l = tx t ++ r ∧ (t.length : Int) ≤ most := by
  unfold textF at h
  obtain ⟨v, l1, x1⟩ : Nat × List UInt8 × Int := uintF l 0
  generalize hu : uintF l 0 = u at h
  obtain ⟨v, l1, x1⟩ := u
  simp only at h
  split at h
  · rename_i h0
    simp only [Prod.mk.injEq] at h
    exact absurd h.2.2 h0
  · rename_i h0
    have hx : x1 = 0 := Decidable.not_not.1 h0
    subst hx
    split at h
    · simp at h
    · rename_i hm
      have hl := uintF_back hu
      unfold rawF at h
      rw [if_neg (by simp), if_neg (by omega)] at h
      split at h
      · simp at h
      · rename_i hlen
        simp only [Int.toNat_natCast, Prod.mk.injEq, and_true] at h
        obtain ⟨h1, h2⟩ := h
        have ht : t.length = v := by rw [← h1, List.length_take]; omega
        refine ⟨?_, by omega⟩
        unfold tx
        rw [hl, ht, List.append_assoc, ← h1, ← h2, List.take_append_drop]
theorem uintF_zero' (l : List UInt8) (x : Int) (h : x ≠ 0) : (uintF l x).2.2 = x := by rw [uintF_err l x h]
end Go.Proofs.YtifcibmpeolmdaaDoor.V
namespace Go.Proofs.YtifcibmpeolmdaaDoor

/-- A frame. -/
structure Fr where
  kind : Int
  ses : Int
  ep : Int
  idx : Int
  tot : Int
  data : List UInt8
theorem Fr.ext' {a b : Fr} (h1 : a.kind = b.kind) (h2 : a.ses = b.ses) (h3 : a.ep = b.ep) (h4 : a.idx = b.idx) (h5 : a.tot = b.tot) (h6 : a.data = b.data) : a = b := by
  cases a; cases b; simp at *; exact ⟨h1, h2, h3, h4, h5, h6⟩
theorem Fr.iff (a b : Fr) : a = b ↔ a.kind = b.kind ∧ a.ses = b.ses ∧ a.ep = b.ep ∧ a.idx = b.idx ∧ a.tot = b.tot ∧ a.data = b.data :=
  ⟨fun h => by rw [h]; exact ⟨rfl, rfl, rfl, rfl, rfl, rfl⟩, fun h => Fr.ext' h.1 h.2.1 h.2.2.1 h.2.2.2.1 h.2.2.2.2.1 h.2.2.2.2.2⟩
instance : DecidableEq Fr := fun a b => decidable_of_iff _ (Fr.iff a b).symm
def zeroF : Fr := ⟨0, 0, 0, 0, 0, []⟩
/-- It may be. -/
def rightF (f : Fr) : Prop := (f.kind = 1 ∨ f.kind = 2) ∧ (0 ≤ f.ses ∧ f.ses < 4294967296) ∧ (0 ≤ f.ep ∧ f.ep < 4294967296) ∧ (0 ≤ f.idx ∧ f.idx < 65536) ∧ (0 ≤ f.tot ∧ f.tot < 65536) ∧ f.data.length ≤ 65000
instance (f : Fr) : Decidable (rightF f) := inferInstanceAs (Decidable (_ ∧ _))

/-- A receiver: its session and epoch, which chunks are there, their texts, how often each error came. -/
structure Rv where
  ses : Int
  ep : Int
  l : List Bool
  c : List (List UInt8)
  d : Int → Nat

structure Good (r : Rv) : Prop where
  ses : 0 ≤ r.ses ∧ r.ses < 4294967296
  ep : 0 ≤ r.ep ∧ r.ep < 4294967296
  len : r.l.length = r.c.length
  pos : 1 ≤ r.c.length
  few : r.c.length ≤ 256
  text : ∀ i, (r.c.getD i []).length ≤ 1000
  gone : ∀ i, r.l.getD i false = false → r.c.getD i [] = []

/-- What may be. -/
def mayR (a b c : Int) : Prop := (0 ≤ a ∧ a < 4294967296) ∧ (0 ≤ b ∧ b < 4294967296) ∧ (1 ≤ c ∧ c ≤ 256)
instance (a b c : Int) : Decidable (mayR a b c) := inferInstanceAs (Decidable (_ ∧ _))
def newR (a b : Int) (n : Nat) : Rv := ⟨a, b, List.replicate n false, List.replicate n [], fun _ => 0⟩
namespace Rv
def wrong (r : Rv) (f : Fr) : Nat :=
  if f.kind ≠ 1 ∨ ¬ rightF f then 1 else if f.ses ≠ r.ses then 12 else if f.ep ≠ r.ep then 13 else if f.tot ≠ r.c.length ∨ f.tot ≤ f.idx then 14
  else if 1000 < f.data.length then 7 else if r.l.getD f.idx.toNat false then 9 else 0
def count (r : Rv) (e : Int) : Rv := { r with d := fun k => if k = e then r.d k + 1 else r.d k }
def keep (r : Rv) (i : Nat) (s : List UInt8) : Rv := { r with l := r.l.set i true, c := r.c.set i s }
def take (r : Rv) (f : Fr) : Rv := if r.wrong f = 0 then r.keep f.idx.toNat f.data else r.count (r.wrong f : Nat)
def full (r : Rv) : Prop := baseN r.l = r.c.length
instance (r : Rv) : Decidable r.full := inferInstanceAs (Decidable (_ = _))
def data (r : Rv) : List UInt8 := if r.full then r.c.flatten else []
def dataE (r : Rv) : Nat := if r.full then 0 else 11
def ack (r : Rv) : Fr := ⟨2, r.ses, r.ep, (baseN r.l : Nat), (r.c.length : Nat), behB r.l 16⟩
/-- A chunk in a cursor. -/
def part (r : Rv) (i : Nat) : List UInt8 := if r.l.getD i false then V.enc i ++ V.tx (r.c.getD i []) else []
/-- The first k of them. -/
def body (r : Rv) : Nat → List UInt8
  | 0 => []
  | k + 1 => body r k ++ r.part k
def head (r : Rv) : List UInt8 := V.enc r.ses.toNat ++ V.enc r.ep.toNat ++ V.enc r.c.length
def cursor (r : Rv) : List UInt8 := r.head ++ r.body r.c.length ++ V.enc r.c.length
/-- But for the counts the same. -/
def core (r : Rv) : Rv := { r with d := fun _ => 0 }
end Rv
/-- What a cursor's chunks say, from some number on: so many more may come. -/
def fillF (n : Nat) : Nat → Nat → List UInt8 → Rv → Rv × Int
  | 0, _, _, r => (r, 0)
  | f + 1, least, s, r =>
    if (V.uintF s 0).2.2 ≠ 0 then (r, (V.uintF s 0).2.2)
    else if (V.uintF s 0).1 = n then (r, V.doneF (V.uintF s 0).2.1 0)
    else if n < (V.uintF s 0).1 then (r, 14)
    else if (V.uintF s 0).1 < least then (r, 6)
    else if (V.textF (V.uintF s 0).2.1 0 1000).2.2 ≠ 0 then (r, (V.textF (V.uintF s 0).2.1 0 1000).2.2)
    else fillF n f ((V.uintF s 0).1 + 1) (V.textF (V.uintF s 0).2.1 0 1000).2.1 (r.keep (V.uintF s 0).1 (V.textF (V.uintF s 0).2.1 0 1000).1)
/-- The three numbers ahead: each, what is left behind it, what was wrong. -/
def headA (s : List UInt8) : Nat × List UInt8 × Int := V.uintF s 0
def headB (s : List UInt8) : Nat × List UInt8 × Int := V.uintF (headA s).2.1 (headA s).2.2
def headC (s : List UInt8) : Nat × List UInt8 × Int := V.uintF (headB s).2.1 (headB s).2.2
def resumeF (s : List UInt8) : Rv × Int :=
  if (headC s).2.2 ≠ 0 then (newR 0 0 0, (headC s).2.2)
  else if ¬ mayR (headA s).1 (headB s).1 (headC s).1 then (newR 0 0 0, 1)
  else fillF (headC s).1 ((headC s).1 + 1) 0 (headC s).2.1 (newR (headA s).1 (headB s).1 (headC s).1)

/-! ### What becomes of a receiver -/
theorem getD_setS (l : List (List UInt8)) (k i : Nat) (s : List UInt8) (hk : k < l.length) : (l.set k s).getD i [] = if i = k then s else l.getD i [] := by
  rw [List.getD_eq_getElem?_getD, List.getElem?_set, List.getD_eq_getElem?_getD]
  by_cases h : k = i
  · subst h; simp [hk]
  · rw [if_neg h, if_neg (Ne.symm h)]
theorem getD_rep (n i : Nat) : (List.replicate n false).getD i false = false := by
  rw [List.getD_eq_getElem?_getD, List.getElem?_replicate]; split <;> rfl
theorem getD_repS (n i : Nat) : (List.replicate n ([] : List UInt8)).getD i [] = [] := by
  rw [List.getD_eq_getElem?_getD, List.getElem?_replicate]; split <;> rfl
theorem Good.new {a b : Int} {n : Nat} (h : mayR a b n) : Good (newR a b n) :=
  ⟨h.1, h.2.1, by simp [newR], by simp only [newR, List.length_replicate]; have := h.2.2.1; omega, by simp only [newR, List.length_replicate]; have := h.2.2.2; omega, fun i => by show ((List.replicate n []).getD i []).length ≤ 1000; rw [getD_repS]; simp, fun i _ => getD_repS n i⟩
theorem Good.count {r : Rv} (h : Good r) (e : Int) : Good (r.count e) := ⟨h.ses, h.ep, h.len, h.pos, h.few, h.text, h.gone⟩
theorem Good.core {r : Rv} (h : Good r) : Good r.core := ⟨h.ses, h.ep, h.len, h.pos, h.few, h.text, h.gone⟩
theorem Good.keep {r : Rv} (h : Good r) {i : Nat} (hi : i < r.c.length) {s : List UInt8} (hs : s.length ≤ 1000) : Good (r.keep i s) :=
  ⟨h.ses, h.ep, by simp [Rv.keep, h.len], by simp [Rv.keep, h.pos], by simp [Rv.keep, h.few], fun k => by
    show ((r.c.set i s).getD k []).length ≤ 1000
    rw [getD_setS _ _ _ _ hi]
    split
    · exact hs
    · exact h.text k, fun k hk => by
    show (r.c.set i s).getD k [] = []
    have hk : (r.l.set i true).getD k false = false := hk
    rw [getD_set _ _ _ (by rw [h.len]; exact hi)] at hk
    simp at hk
    rw [getD_setS _ _ _ _ hi, if_neg hk.1]
    exact h.gone k (by simpa using hk.2)⟩
theorem wrong_ok {r : Rv} {f : Fr} (h : r.wrong f = 0) : f.kind = 1 ∧ rightF f ∧ f.ses = r.ses ∧ f.ep = r.ep ∧ f.tot = r.c.length ∧ 0 ≤ f.idx ∧ f.idx.toNat < r.c.length ∧ f.data.length ≤ 1000 ∧ r.l.getD f.idx.toNat false = false := by
  unfold Rv.wrong at h
  split at h
  · cases h
  · rename_i h1
    split at h
    · cases h
    · rename_i h2
      split at h
      · cases h
      · rename_i h3
        split at h
        · cases h
        · rename_i h4
          split at h
          · cases h
          · rename_i h5
            split at h
            · cases h
            · rename_i h6
              have a1 : f.kind = 1 := Decidable.not_not.1 fun e => h1 (.inl e)
              have a2 : rightF f := Decidable.not_not.1 fun e => h1 (.inr e)
              have a4 : f.tot = r.c.length := Decidable.not_not.1 fun e => h4 (.inl e)
              have a5 : ¬ f.tot ≤ f.idx := fun e => h4 (.inr e)
              have a6 := a2.2.2.2.1.1
              exact ⟨a1, a2, Decidable.not_not.1 h2, Decidable.not_not.1 h3, a4, a6, by omega, by omega, by simpa using h6⟩
theorem wrong_cases (r : Rv) (f : Fr) : r.wrong f = 0 ∨ r.wrong f = 1 ∨ r.wrong f = 12 ∨ r.wrong f = 13 ∨ r.wrong f = 14 ∨ r.wrong f = 7 ∨ r.wrong f = 9 := by
  unfold Rv.wrong
  repeat' split
  all_goals simp
theorem wrong_lt (r : Rv) (f : Fr) : r.wrong f < 20 := by
  rcases wrong_cases r f with h | h | h | h | h | h | h <;> omega
theorem Good.take {r : Rv} (h : Good r) (f : Fr) : Good (r.take f) := by
  unfold Rv.take
  split
  · rename_i h0
    obtain ⟨_, _, _, _, _, _, h1, h2, _⟩ := wrong_ok h0
    exact h.keep h1 h2
  · exact h.count _
theorem take_len (r : Rv) (f : Fr) : (r.take f).c.length = r.c.length := by
  unfold Rv.take
  split
  · simp [Rv.keep]
  · rfl
theorem take_ses (r : Rv) (f : Fr) : (r.take f).ses = r.ses ∧ (r.take f).ep = r.ep := by
  unfold Rv.take
  split <;> exact ⟨rfl, rfl⟩
theorem take_no {r : Rv} {f : Fr} (h : r.wrong f ≠ 0) : (r.take f).core = r.core ∧ (r.take f).d = (r.count (r.wrong f : Nat)).d := by
  unfold Rv.take
  rw [if_neg h]
  exact ⟨rfl, rfl⟩
theorem take_yes {r : Rv} {f : Fr} (h : r.wrong f = 0) : r.take f = r.keep f.idx.toNat f.data := by unfold Rv.take; rw [if_pos h]
/-- Counts rise by one at most. -/
theorem take_d (r : Rv) (f : Fr) (k : Int) (N : Nat) (h : r.d k ≤ N) : (r.take f).d k ≤ N + 1 := by
  unfold Rv.take
  split
  · show r.d k ≤ N + 1
    omega
  · show (if k = _ then r.d k + 1 else r.d k) ≤ N + 1
    split <;> omega
/-- Of two that are but for the counts the same. -/
theorem core_iff {x y : Rv} : x.core = y.core ↔ x.ses = y.ses ∧ x.ep = y.ep ∧ x.l = y.l ∧ x.c = y.c := by
  constructor
  · intro h
    simp only [Rv.core, Rv.mk.injEq, and_true] at h
    exact h
  · rintro ⟨h1, h2, h3, h4⟩
    simp only [Rv.core, Rv.mk.injEq, and_true]
    exact ⟨h1, h2, h3, h4⟩
theorem core_wrong {x y : Rv} (h : x.core = y.core) (f : Fr) : x.wrong f = y.wrong f := by
  obtain ⟨h1, h2, h3, h4⟩ := core_iff.1 h
  unfold Rv.wrong
  rw [h1, h2, h3, h4]
theorem core_take {x y : Rv} (h : x.core = y.core) (f : Fr) : (x.take f).core = (y.take f).core := by
  have hw := core_wrong h f
  obtain ⟨h1, h2, h3, h4⟩ := core_iff.1 h
  unfold Rv.take
  rw [hw]
  split
  · rw [core_iff]
    exact ⟨h1, h2, by show x.l.set _ _ = y.l.set _ _; rw [h3], by show x.c.set _ _ = y.c.set _ _; rw [h4]⟩
  · rw [core_iff]
    exact ⟨h1, h2, h3, h4⟩
theorem core_data {x y : Rv} (h : x.core = y.core) : x.data = y.data ∧ x.dataE = y.dataE ∧ x.ack = y.ack ∧ x.l = y.l ∧ x.c = y.c := by
  obtain ⟨h1, h2, h3, h4⟩ := core_iff.1 h
  obtain ⟨s, e, l, c, d⟩ := x
  obtain ⟨s', e', l', c', d'⟩ := y
  simp only at h1 h2 h3 h4
  subst h1 h2 h3 h4
  exact ⟨rfl, rfl, rfl, rfl, rfl⟩
theorem core_part {x y : Rv} (h3 : x.l = y.l) (h4 : x.c = y.c) (i : Nat) : x.part i = y.part i := by unfold Rv.part; rw [h3, h4]
theorem core_body {x y : Rv} (h3 : x.l = y.l) (h4 : x.c = y.c) : ∀ k, x.body k = y.body k
  | 0 => rfl
  | k + 1 => by rw [Rv.body, Rv.body, core_body h3 h4 k, core_part h3 h4 k]
theorem core_cursor {x y : Rv} (h : x.core = y.core) : x.cursor = y.cursor := by
  obtain ⟨h1, h2, h3, h4⟩ := core_iff.1 h
  unfold Rv.cursor Rv.head
  rw [h1, h2, core_body h3 h4, h4]

/-! ### A cursor is read as it was -/
theorem part_len {r : Rv} (h : Good r) {i : Nat} (hi : i < 256) : (r.part i).length ≤ 1020 := by
  unfold Rv.part
  split
  · have h1 := V.enc_len10 i (by omega)
    have h2 := h.text i
    have h3 := V.enc_len10 (r.c.getD i []).length (by omega)
    unfold V.tx
    rw [List.length_append, List.length_append]
    omega
  · simp
theorem body_len {r : Rv} (h : Good r) : ∀ k, k ≤ 256 → (r.body k).length ≤ 1020 * k
  | 0, _ => by simp [Rv.body]
  | k + 1, hk => by
    have h1 := body_len h k (by omega)
    have h2 := part_len h (i := k) (by omega)
    rw [Rv.body, List.length_append]
    omega
theorem head_len {r : Rv} (h : Good r) : r.head.length ≤ 30 := by
  have h1 := V.enc_len10 r.ses.toNat (by have := h.ses; omega)
  have h2 := V.enc_len10 r.ep.toNat (by have := h.ep; omega)
  have h3 := V.enc_len10 r.c.length (by have := h.few; omega)
  unfold Rv.head
  rw [List.length_append, List.length_append]
  omega
theorem cursor_len {r : Rv} (h : Good r) : r.cursor.length ≤ 300000 := by
  have h1 := head_len h
  have h2 := body_len h r.c.length h.few
  have h3 := V.enc_len10 r.c.length (by have := h.few; omega)
  have h4 := h.few
  unfold Rv.cursor
  rw [List.length_append, List.length_append]
  omega
/-- From some chunk on. -/
def tail (r : Rv) : Nat → Nat → List UInt8
  | _, 0 => []
  | k, m + 1 => r.part k ++ tail r (k + 1) m
theorem body_tail (r : Rv) : ∀ m k, r.body k ++ tail r k m = r.body (k + m)
  | 0, k => by simp [tail]
  | m + 1, k => by
    rw [tail, ← List.append_assoc, show r.body k ++ r.part k = r.body (k + 1) from rfl, body_tail r m (k + 1)]
    congr 1
    omega
/-- One whose first k chunks are those of r, the others not there. -/
structure Upto (r x : Rv) (k : Nat) : Prop where
  ses : x.ses = r.ses
  ep : x.ep = r.ep
  ll : x.l.length = r.l.length
  cl : x.c.length = r.c.length
  low : ∀ i, i < k → x.l.getD i false = r.l.getD i false ∧ x.c.getD i [] = r.c.getD i []
  high : ∀ i, k ≤ i → x.l.getD i false = false ∧ x.c.getD i [] = []
  d : x.d = fun _ => 0
theorem ext_getS {l m : List (List UInt8)} (h : l.length = m.length) (hg : ∀ i, i < l.length → l.getD i [] = m.getD i []) : l = m := by
  refine List.ext_getElem? fun i => ?_
  by_cases hi : i < l.length
  · have := hg i hi
    rw [List.getD_eq_getElem?_getD, List.getD_eq_getElem?_getD, List.getElem?_eq_getElem hi, List.getElem?_eq_getElem (by omega : i < m.length)] at this
    rw [List.getElem?_eq_getElem hi, List.getElem?_eq_getElem (by omega : i < m.length)]
    simpa using this
  · rw [List.getElem?_eq_none (by omega), List.getElem?_eq_none (by omega)]
theorem Upto.all {r x : Rv} {k : Nat} (h : Upto r x k) (hr : Good r) (hk : r.c.length ≤ k) : x = r.core := by
  have hl : x.l = r.l := ext_getD h.ll fun i hi => (h.low i (by have := h.ll; have := hr.len; omega)).1
  have hc : x.c = r.c := ext_getS h.cl fun i hi => (h.low i (by have := h.cl; omega)).2
  obtain ⟨s, e, l, c, d⟩ := x
  have h1 := h.ses; have h2 := h.ep; have h5 := h.d
  simp only at *
  subst h1 h2 hl hc h5
  rfl
theorem Upto.skip {r x : Rv} {k : Nat} (h : Upto r x k) (hr : Good r) (hk : r.l.getD k false = false) : Upto r x (k + 1) :=
  ⟨h.ses, h.ep, h.ll, h.cl, fun i hi => by
    by_cases e : i = k
    · subst e
      rw [hk, hr.gone i hk]
      exact h.high i (Nat.le_refl _)
    · exact h.low i (by omega), fun i hi => h.high i (by omega), h.d⟩
theorem Upto.next {r x : Rv} {k : Nat} (h : Upto r x k) (hr : Good r) (hk : r.l.getD k false = true) (hn : k < r.c.length) : Upto r (x.keep k (r.c.getD k [])) (k + 1) :=
  ⟨h.ses, h.ep, by simp [Rv.keep, h.ll], by simp [Rv.keep, h.cl], fun i hi => by
    show (x.l.set k true).getD i false = _ ∧ (x.c.set k _).getD i [] = _
    rw [getD_set _ _ _ (by rw [h.ll, hr.len]; exact hn), getD_setS _ _ _ _ (by rw [h.cl]; exact hn)]
    by_cases e : i = k
    · subst e
      rw [hk, if_pos rfl]
      simp
    · rw [if_neg e, decide_eq_false e, Bool.false_or]
      exact h.low i (by omega), fun i hi => by
    show (x.l.set k true).getD i false = _ ∧ (x.c.set k _).getD i [] = _
    rw [getD_set _ _ _ (by rw [h.ll, hr.len]; exact hn), getD_setS _ _ _ _ (by rw [h.cl]; exact hn), if_neg (by omega), decide_eq_false (by omega), Bool.false_or]
    exact h.high i (by omega), h.d⟩
theorem fill_tail {r : Rv} (hr : Good r) : ∀ (m k least f : Nat) (x : Rv), k + m = r.c.length → least ≤ k → m < f → Upto r x k → fillF r.c.length f least (tail r k m ++ V.enc r.c.length) x = (r.core, 0)
  | 0, k, least, f, x, hk, _, hf, hx => by
    obtain ⟨g, rfl⟩ : ∃ g, f = g + 1 := ⟨f - 1, by omega⟩
    have hu := V.uintF_enc r.c.length [] (by have := hr.few; omega)
    rw [List.append_nil] at hu
    rw [tail, List.nil_append, fillF, hu]
    simp only [ne_eq, not_true, if_false, if_true]
    rw [hx.all hr (by omega)]
    rfl
  | m + 1, k, least, f, x, hk, hl, hf, hx => by
    by_cases h : r.l.getD k false = true
    · obtain ⟨g, rfl⟩ : ∃ g, f = g + 1 := ⟨f - 1, by omega⟩
      have hfew := hr.few
      have hu := V.uintF_enc k (V.tx (r.c.getD k []) ++ (tail r (k + 1) m ++ V.enc r.c.length)) (by omega)
      have ht := V.textF_ok (t := r.c.getD k []) (tail r (k + 1) m ++ V.enc r.c.length) (most := 1000) (by have := hr.text k; omega) (by have := hr.text k; omega)
      rw [tail, Rv.part, if_pos h, List.append_assoc, List.append_assoc, fillF, hu]
      simp only [ne_eq, not_true, if_false]
      rw [if_neg (by omega), if_neg (by omega), if_neg (by omega), ht]
      simp only [not_true, if_false]
      exact fill_tail hr m (k + 1) (k + 1) g _ (by omega) (Nat.le_refl _) (by omega) (hx.next hr h (by omega))
    · have h2 : r.l.getD k false = false := by simpa using h
      rw [tail, Rv.part, if_neg h, List.nil_append]
      exact fill_tail hr m (k + 1) least f x (by omega) (by omega) (by omega) (hx.skip hr h2)
theorem resume_cursor {r : Rv} (h : Good r) : resumeF r.cursor = (r.core, 0) := by
  have hs := h.ses; have he := h.ep; have hf := h.few; have hp := h.pos
  have hc : r.cursor = V.enc r.ses.toNat ++ (V.enc r.ep.toNat ++ (V.enc r.c.length ++ (tail r 0 r.c.length ++ V.enc r.c.length))) := by
    have := body_tail r r.c.length 0
    rw [Nat.zero_add, show r.body 0 = [] from rfl, List.nil_append] at this
    unfold Rv.cursor Rv.head
    rw [← this]
    simp only [List.append_assoc]
  have hA : headA r.cursor = (r.ses.toNat, V.enc r.ep.toNat ++ (V.enc r.c.length ++ (tail r 0 r.c.length ++ V.enc r.c.length)), 0) := by
    unfold headA
    rw [hc, V.uintF_enc _ _ (by omega)]
  have hB : headB r.cursor = (r.ep.toNat, V.enc r.c.length ++ (tail r 0 r.c.length ++ V.enc r.c.length), 0) := by
    unfold headB
    rw [hA]
    exact V.uintF_enc _ _ (by omega)
  have hC : headC r.cursor = (r.c.length, tail r 0 r.c.length ++ V.enc r.c.length, 0) := by
    unfold headC
    rw [hB]
    exact V.uintF_enc _ _ (by omega)
  have e1 : ((r.ses.toNat : Nat) : Int) = r.ses := by omega
  have e2 : ((r.ep.toNat : Nat) : Int) = r.ep := by omega
  have hm : mayR r.ses r.ep (r.c.length : Nat) := ⟨hs, he, by omega, by omega⟩
  unfold resumeF
  rw [hC, hA, hB]
  simp only [ne_eq, not_true, if_false, e1, e2]
  rw [if_neg (fun q => q hm)]
  refine fill_tail h r.c.length 0 0 _ _ (by omega) (Nat.le_refl _) (by omega) ?_
  exact ⟨rfl, rfl, by simp [newR, h.len], by simp [newR], fun i hi => by omega, fun i _ => ⟨getD_rep _ i, getD_repS _ i⟩, rfl⟩

/-! ### No other bytes are one's cursor -/
theorem part_same {x y : Rv} {i : Nat} (h1 : x.l.getD i false = y.l.getD i false) (h2 : x.c.getD i [] = y.c.getD i []) : x.part i = y.part i := by unfold Rv.part; rw [h1, h2]
theorem body_same {x y : Rv} : ∀ k, (∀ i, i < k → x.l.getD i false = y.l.getD i false ∧ x.c.getD i [] = y.c.getD i []) → x.body k = y.body k
  | 0, _ => rfl
  | k + 1, h => by rw [Rv.body, Rv.body, body_same k (fun i hi => h i (by omega)), part_same (h k (by omega)).1 (h k (by omega)).2]
/-- Nothing from k to m. -/
theorem body_none {x : Rv} (k : Nat) : ∀ m, (∀ i, k ≤ i → i < k + m → x.l.getD i false = false) → x.body (k + m) = x.body k
  | 0, _ => rfl
  | m + 1, h => by
    rw [show k + (m + 1) = (k + m) + 1 by omega, Rv.body, Rv.part, if_neg (by rw [h (k + m) (by omega) (by omega)]; simp), List.append_nil]
    exact body_none k m fun i h1 h2 => h i h1 (by omega)
theorem fill_back (n : Nat) : ∀ (f least : Nat) (s : List UInt8) (x y : Rv), Good x → x.c.length = n → (∀ i, least ≤ i → x.l.getD i false = false) → 0 < f → n < least + f → fillF n f least s x = (y, 0) →
    Good y ∧ y.ses = x.ses ∧ y.ep = x.ep ∧ y.c.length = n ∧ y.d = x.d ∧ y.body n ++ V.enc n = x.body least ++ s ∧ (∀ i, i < least → y.l.getD i false = x.l.getD i false ∧ y.c.getD i [] = x.c.getD i [])
  | 0, _, _, _, _, _, _, _, h0, _, _ => absurd h0 (Nat.lt_irrefl 0)
  | f + 1, least, s, x, y, hx, hn, hl, _, hf, h => by
    rw [fillF] at h
    generalize hu : V.uintF s 0 = u at h
    obtain ⟨i, s1, e1⟩ := u
    simp only at h
    split at h
    · rename_i h0
      simp only [Prod.mk.injEq] at h
      exact absurd h.2 h0
    · rename_i h0
      have he : e1 = 0 := Decidable.not_not.1 h0
      subst he
      have hs := V.uintF_back hu
      split at h
      · rename_i h1
        subst h1
        simp only [Prod.mk.injEq] at h
        obtain ⟨h2, h3⟩ := h
        subst h2
        have hs1 : s1 = [] := by
          unfold V.doneF at h3
          rw [if_neg (by simp)] at h3
          split at h3
          · cases h3
          · exact List.length_eq_zero_iff.1 (by omega)
        refine ⟨hx, rfl, rfl, hn, rfl, ?_, fun _ _ => ⟨rfl, rfl⟩⟩
        rw [hs, hs1, List.append_nil]
        congr 1
        by_cases hle : least ≤ i
        · rw [show i = least + (i - least) by omega]
          exact body_none least _ fun j h1 _ => hl j h1
        · have : least = i + (least - i) := by omega
          rw [this]
          refine (body_none i _ fun j h1 h2 => ?_).symm
          exact getD_out _ _ (by rw [hx.len, hn]; omega)
      · rename_i h1
        split at h
        · simp at h
        · rename_i h2
          split at h
          · simp at h
          · rename_i h3
            generalize ht : V.textF s1 0 1000 = t at h
            obtain ⟨tx, s2, e2⟩ := t
            simp only at h
            split at h
            · rename_i h4
              simp only [Prod.mk.injEq] at h
              exact absurd h.2 h4
            · rename_i h4
              have he : e2 = 0 := Decidable.not_not.1 h4
              subst he
              obtain ⟨hb, hlen⟩ := V.textF_back ht
              have hi : i < x.c.length := by omega
              have hk := hx.keep hi (s := tx) (by omega)
              have hkl : ∀ j, (x.keep i tx).l.getD j false = (decide (j = i) || x.l.getD j false) := fun j => getD_set _ _ _ (by rw [hx.len]; exact hi)
              have hkc : ∀ j, (x.keep i tx).c.getD j [] = if j = i then tx else x.c.getD j [] := fun j => getD_setS _ _ _ _ hi
              obtain ⟨g1, g2, g3, g4, g5, g6, g7⟩ := fill_back n f (i + 1) s2 (x.keep i tx) y hk (by simp [Rv.keep, hn]) (fun j hj => by rw [hkl, decide_eq_false (by omega), Bool.false_or]; exact hl j (by omega)) (by omega) (by omega) h
              refine ⟨g1, g2, g3, g4, g5, ?_, fun j hj => ?_⟩
              · rw [g6, Rv.body, hs, hb]
                have hp : (x.keep i tx).part i = V.enc i ++ V.tx tx := by
                  unfold Rv.part
                  rw [hkl, hkc, if_pos rfl]
                  simp
                have hb2 : (x.keep i tx).body i = x.body least := by
                  have e1 : (x.keep i tx).body i = x.body i := body_same i fun j hj => by
                    rw [hkl, hkc, if_neg (by omega), decide_eq_false (by omega), Bool.false_or]
                    exact ⟨rfl, rfl⟩
                  rw [e1, show i = least + (i - least) by omega]
                  exact body_none least _ fun j h1 _ => hl j h1
                rw [hp, hb2]
                simp only [List.append_assoc]
              · obtain ⟨q1, q2⟩ := g7 j (by omega)
                rw [hkl, decide_eq_false (by omega), Bool.false_or] at q1
                rw [hkc, if_neg (by omega)] at q2
                exact ⟨q1, q2⟩
theorem back_of {l : List UInt8} {x : Int} {q : Nat × List UInt8 × Int} (hx : x = 0) (hq : q = V.uintF l x) (h0 : q.2.2 = 0) : l = V.enc q.1 ++ q.2.1 := by
  subst hx
  refine V.uintF_back (r := q.2.1) ?_
  rw [← hq]
  obtain ⟨a, b, c⟩ := q
  simp only at h0
  subst h0
  rfl
theorem cursor_resume {s : List UInt8} {y : Rv} (h : resumeF s = (y, 0)) : Good y ∧ y.cursor = s ∧ y.d = fun _ => 0 := by
  unfold resumeF at h
  split at h
  · rename_i h0
    simp only [Prod.mk.injEq] at h
    exact absurd h.2 h0
  · rename_i h0
    split at h
    · simp at h
    · rename_i hm
      have hm : mayR (headA s).1 (headB s).1 (headC s).1 := Decidable.not_not.1 hm
      have hC0 : (headC s).2.2 = 0 := Decidable.not_not.1 h0
      have hB0 : (headB s).2.2 = 0 := by
        by_cases e : (headB s).2.2 = 0
        · exact e
        · have := V.uintF_zero' (headB s).2.1 _ e
          unfold headC at hC0
          rw [hC0] at this
          exact this.symm
      have hA0 : (headA s).2.2 = 0 := by
        by_cases e : (headA s).2.2 = 0
        · exact e
        · have := V.uintF_zero' (headA s).2.1 _ e
          unfold headB at hB0
          rw [hB0] at this
          exact this.symm
      have hA : s = V.enc (headA s).1 ++ (headA s).2.1 := back_of rfl rfl hA0
      have hB : (headA s).2.1 = V.enc (headB s).1 ++ (headB s).2.1 := back_of hA0 rfl hB0
      have hC : (headB s).2.1 = V.enc (headC s).1 ++ (headC s).2.1 := back_of hB0 rfl hC0
      generalize (headA s).1 = a at *
      generalize (headB s).1 = b at *
      generalize (headC s).1 = c at *
      generalize (headC s).2.1 = r3 at *
      generalize (headB s).2.1 = r2 at *
      generalize (headA s).2.1 = r1 at *
      obtain ⟨g1, g2, g3, g4, g5, g6, _⟩ := fill_back c (c + 1) 0 _ _ y (Good.new hm) (by simp [newR]) (fun i _ => getD_rep c i) (by omega) (by omega) h
      refine ⟨g1, ?_, g5⟩
      unfold Rv.cursor Rv.head
      rw [g4, List.append_assoc, g6, g2, g3, hA, hB, hC]
      show V.enc (a : Int).toNat ++ V.enc (b : Int).toNat ++ V.enc c ++ ([] ++ _) = _
      simp
/-- Of two, the first bytes of whose sessions are the same: alike bytes, alike receivers. -/
theorem cursor_inj {x y : Rv} (hx : Good x) (hy : Good y) (h : x.cursor = y.cursor) : x.core = y.core := by
  have h1 := resume_cursor hx
  rw [h, resume_cursor hy] at h1
  simpa using h1.symm
end Go.Proofs.YtifcibmpeolmdaaDoor
