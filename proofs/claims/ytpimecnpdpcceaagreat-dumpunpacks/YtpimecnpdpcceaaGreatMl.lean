/- Proved: several texts in one: plain mathematics of packing: what tokens say, their bits, how they are read, and that what is written is read as it was; plain mathematics of packing, more: what is read says each copy where it may be; plain mathematics of dumps: what is written is read as it was, no other bytes are that, what is cut off or goes on is none, one more is longer; a map from texts to numbers in memory: what is looked up, what is put in. Each with its conditions where it stands. -/
import Derived.Test.YtpimecnpdpcceaaGreatMb
import Derived.Test.YtpimecnpdpcceaaGreatMv
import Derived.Test.YtpimecnpdpcceaaGreatMp1
import Derived.Maps.OwnSet
import Derived.WideKeyRuns
import Derived.MapKept

/- Proved: plain mathematics of packing: what tokens say, their bits, how they are read, and that what is written is read as it was. No condition. -/
namespace Go.Proofs.YtpimecnpdpcceaaGreat.Lz
open Go.Proofs.YtpimecnpdpcceaaGreat.Bit

/-- A byte (len 0), or a copy. -/
structure Tk where
  b : UInt8
  back : Nat
  len : Nat
  deriving DecidableEq
/-- Len bytes, each the one that stands back bytes ahead of it. -/
def copyN (back : Nat) : Nat → List UInt8 → List UInt8
  | 0, out => out
  | k + 1, out => copyN back k (out ++ [out.getD (out.length - back) 0])
def stepT (out : List UInt8) (t : Tk) : List UInt8 := if t.len = 0 then out ++ [t.b] else copyN t.back t.len out
def textT (l : List Tk) : List UInt8 := l.foldl stepT []
theorem copyN_len (back : Nat) : ∀ (k : Nat) (out : List UInt8), (copyN back k out).length = out.length + k
  | 0, _ => rfl
  | k + 1, out => by rw [copyN, copyN_len back k, List.length_append]; simp; omega
/-- How many bytes a token has. -/
def sizeT (t : Tk) : Nat := max t.len 1
theorem stepT_len (out : List UInt8) (t : Tk) : (stepT out t).length = out.length + sizeT t := by
  unfold stepT sizeT
  split
  · simp; omega
  · rw [copyN_len]; omega
theorem textT_snoc (l : List Tk) (t : Tk) : textT (l ++ [t]) = stepT (textT l) t := by simp [textT]
/-- A copy of what stands there. -/
theorem copy_ok {s : List UInt8} {from' : Nat} : ∀ (k i : Nat), from' < i → i + k ≤ s.length → (∀ j, j < k → s[from' + j]? = s[i + j]?) → copyN (i - from') k (s.take i) = s.take (i + k)
  | 0, i, _, _, _ => by rw [copyN, Nat.add_zero]
  | k + 1, i, hf, hl, hs => by
    have h0 := hs 0 (by omega)
    rw [Nat.add_zero, Nat.add_zero] at h0
    have hlen : (s.take i).length = i := by rw [List.length_take]; omega
    have hget : (s.take i).getD ((s.take i).length - (i - from')) 0 = s.getD i 0 := by
      rw [hlen, show i - (i - from') = from' by omega, List.getD_eq_getElem?_getD, List.getD_eq_getElem?_getD, List.getElem?_take, if_pos hf, h0]
    have htake : s.take i ++ [s.getD i 0] = s.take (i + 1) := by
      have hi : i < s.length := by omega
      rw [List.take_add_one, List.getElem?_eq_getElem hi]
      simp [List.getD_eq_getElem?_getD, List.getElem?_eq_getElem hi]
    rw [copyN, hget, htake]
    have := copy_ok (s := s) (from' := from' + 1) k (i + 1) (by omega) (by omega) (fun j hj => by
      have := hs (j + 1) (by omega)
      rwa [show from' + (j + 1) = from' + 1 + j by omega, show i + (j + 1) = i + 1 + j by omega] at this)
    rw [show i + 1 - (from' + 1) = i - from' by omega] at this
    rw [this]
    congr 1
    omega

/-- May a token stand there, where the text has so many bytes, of n? -/
def okT (has n : Nat) (t : Tk) : Prop := has < n ∧ ((t.len = 0 ∧ t.back = 0) ∨ (t.b = 0 ∧ 1 ≤ t.back ∧ t.back ≤ has ∧ 3 ≤ t.len ∧ has + t.len ≤ n))
def okL (n : Nat) : Nat → List Tk → Prop
  | has, [] => has = n
  | has, t :: l => okT has n t ∧ okL n (has + sizeT t) l
/-- A token's bits. -/
def bitsT (t : Tk) : List Bool := if t.len = 0 then false :: bitsL t.b.toNat 8 else true :: (codeL (t.back - 1) ++ codeL (t.len - 3))
def bitsTs (l : List Tk) : List Bool := l.flatMap bitsT
/-- Packed bytes. -/
def packL (n : Nat) (l : List Tk) : List UInt8 := bytesL (codeL n ++ bitsTs l)

/-- The next token: the token, what is left, what was wrong. -/
def takeF (has n : Nat) (l : List Bool) : Tk × List Bool × Int :=
  let (bit, l1, x1) := bitsF l 0 1
  if bit = 1 then
    let (back, l2, x2) := codeF l1 x1
    let (more, l3, x3) := codeF l2 x2
    if x3 ≠ 0 then (⟨0, 0, 0⟩, l3, x3)
    else if has ≤ back then (⟨0, 0, 0⟩, l3, 2)
    else if n - has < 3 ∨ n - has - 3 < more then (⟨0, 0, 0⟩, l3, 4)
    else (⟨0, back + 1, more + 3⟩, l3, 0)
  else
    let (b, l2, x2) := bitsF l1 x1 8
    if x2 ≠ 0 then (⟨0, 0, 0⟩, l2, x2) else (⟨UInt8.ofNat b, 0, 0⟩, l2, 0)
theorem bit_one (B : Bool) (r : List Bool) : bitsF (B :: r) 0 1 = (B.toNat, r, 0) := by
  have := bits_read B.toNat 1 r (by omega)
  have h1 : bitsL B.toNat 1 = [B] := by cases B <;> rfl
  rw [h1] at this
  have h2 : B.toNat % 2 ^ 1 = B.toNat := by cases B <;> rfl
  rw [h2] at this
  exact this
theorem take_ok {has n : Nat} {t : Tk} (hn : n ≤ 65536) (h : okT has n t) (r : List Bool) : takeF has n (bitsT t ++ r) = (t, r, 0) := by
  obtain ⟨hlt, ⟨h1, h2⟩ | ⟨h1, h2, h3, h4, h5⟩⟩ := h
  · unfold bitsT takeF
    rw [if_pos h1, List.cons_append, bit_one]
    simp only [Bool.toNat_false, Nat.zero_ne_one, if_false]
    have hb : bitsF (bitsL t.b.toNat 8 ++ r) 0 8 = (t.b.toNat % 2 ^ 8, r, 0) := bits_read t.b.toNat 8 r (by omega)
    rw [hb]
    have : t.b.toNat < 256 := t.b.toNat_lt
    rw [Nat.mod_eq_of_lt (by simpa using this)]
    obtain ⟨b, back, len⟩ := t
    simp only at h1 h2
    subst h1
    subst h2
    simp
  · unfold bitsT takeF
    rw [if_neg (by omega), List.cons_append, bit_one]
    simp only [Bool.toNat_true, if_true]
    rw [List.append_assoc, code_read _ _ (by omega)]
    simp only
    rw [code_read _ _ (by omega)]
    simp only [ne_eq, not_true, if_false]
    rw [if_neg (by omega), if_neg (by omega)]
    obtain ⟨b, back, len⟩ := t
    simp only at h1 h2 h4
    subst h1
    simp only [Prod.mk.injEq, Tk.mk.injEq, and_true, true_and]
    omega
/-- All tokens; fuel: n is enough. -/
def takesF (n : Nat) : Nat → Nat → List Bool → List Tk → (List Tk × List Bool × Int)
  | 0, _, l, out => (out, l, 0)
  | f + 1, has, l, out =>
    if has < n then
      let (t, l1, x) := takeF has n l
      if x ≠ 0 then ([], l1, x) else takesF n f (has + sizeT t) l1 (out ++ [t])
    else (out, l, 0)
/-- What packed bytes say: the tokens, the length, what was wrong. -/
def tokensF (s : List UInt8) : List Tk × Nat × Int :=
  let (n, l, x) := codeF (ofL s) 0
  if x ≠ 0 then ([], 0, x)
  else if 65536 < n then ([], 0, 7)
  else
    let (out, l1, x1) := takesF n n 0 l []
    if x1 ≠ 0 then ([], 0, x1)
    else if doneF l1 0 ≠ 0 then ([], 0, doneF l1 0) else (out, n, 0)
def unpackF (s : List UInt8) (most : Nat) : List UInt8 × Int :=
  let (l, n, x) := tokensF s
  if x ≠ 0 then ([], x) else if most < n then ([], 7) else (textT l, 0)
theorem sizeT_pos (t : Tk) : 1 ≤ sizeT t := by unfold sizeT; omega
theorem okT_room {has n : Nat} {t : Tk} (h : okT has n t) : has + sizeT t ≤ n := by
  obtain ⟨hlt, ⟨h1, _⟩ | ⟨_, _, _, h4, h5⟩⟩ := h <;> unfold sizeT <;> omega
theorem takes_ok {n : Nat} (hn : n ≤ 65536) : ∀ (l : List Tk) (f has : Nat) (r : List Bool) (out : List Tk), okL n has l → n - has ≤ f → takesF n f has (bitsTs l ++ r) out = (out ++ l, r, 0)
  | [], f, has, r, out, h, hf => by
    have h0 : has = n := h
    subst h0
    cases f with
    | zero => simp [takesF, bitsTs]
    | succ f => simp [takesF, bitsTs]
  | t :: l, f, has, r, out, h, hf => by
    obtain ⟨h1, h2⟩ := h
    have hroom := okT_room h1
    have hpos := sizeT_pos t
    cases f with
    | zero => have := h1.1; omega
    | succ f =>
      have hb : bitsTs (t :: l) ++ r = bitsT t ++ (bitsTs l ++ r) := by simp [bitsTs]
      rw [takesF, if_pos h1.1, hb, take_ok hn h1]
      simp only [ne_eq, not_true, if_false]
      rw [takes_ok hn l f _ r _ h2 (by omega), List.append_assoc]
      rfl
/-- What is written is read as it was. -/
theorem tokens_pack {n : Nat} {l : List Tk} (hn : n ≤ 65536) (h : okL n 0 l) : tokensF (packL n l) = (l, n, 0) := by
  unfold tokensF packL
  obtain ⟨k, hk, he⟩ := ofL_bytesL (codeL n ++ bitsTs l)
  rw [he, List.append_assoc, code_read _ _ (by omega)]
  simp only [ne_eq, not_true, if_false]
  rw [if_neg (by omega), takes_ok hn l n 0 _ [] h (by omega)]
  simp only [not_true, if_false]
  rw [done_pad k hk]
  simp
/-- The bits that tokens have. -/
theorem bits_nine : ∀ (l : List Tk), (∀ t ∈ l, (bitsT t).length ≤ 9 * sizeT t) → (bitsTs l).length ≤ 9 * (l.map sizeT).sum
  | [], _ => by simp [bitsTs]
  | t :: l, h => by
    have h1 := h t (by simp)
    have h2 := bits_nine l (fun x hx => h x (by simp [hx]))
    have : bitsTs (t :: l) = bitsT t ++ bitsTs l := by simp [bitsTs]
    rw [this, List.length_append, List.map_cons, List.sum_cons]
    omega
theorem okL_sum {n : Nat} : ∀ (l : List Tk) (has : Nat), okL n has l → has + (l.map sizeT).sum = n
  | [], has, h => by
    have h0 : has = n := h
    simpa using h0
  | t :: l, has, h => by
    have := okL_sum l _ h.2
    rw [List.map_cons, List.sum_cons]
    omega
theorem byte_nine {t : Tk} (h : t.len = 0) : (bitsT t).length = 9 := by
  unfold bitsT
  rw [if_pos h]
  simp [bitsL_len]
theorem pack_len {n : Nat} {l : List Tk} (hn : n ≤ 65536) (h : okL n 0 l) (h9 : ∀ t ∈ l, (bitsT t).length ≤ 9 * sizeT t) : (packL n l).length ≤ (9 * n + 47) / 8 := by
  have h1 := bits_nine l h9
  have h2 := okL_sum l 0 h
  have h3 : (n + 1).log2 < 17 := log2_succ_lt n 17 (by omega)
  unfold packL
  rw [bytesL_len, List.length_append, codeL_len]
  omega
/-- A row of tokens that grows at its end. -/
theorem okL_snoc {n m : Nat} {t : Tk} : ∀ (l : List Tk) (has : Nat), okL m has l → okT m n t → m ≤ n → okL (m + sizeT t) has (l ++ [t])
  | [], has, h, ht, _ => by
    have h0 : has = m := h
    subst h0
    refine ⟨?_, rfl⟩
    have hp := sizeT_pos t
    refine ⟨by omega, ?_⟩
    rcases ht.2 with h | ⟨h1, h2, h3, h4, h5⟩
    · exact .inl h
    · exact .inr ⟨h1, h2, h3, h4, by unfold sizeT; omega⟩
  | y :: l, has, h, ht, hmn => by
    have h2 := okL_snoc l _ h.2 ht hmn
    refine ⟨⟨?_, ?_⟩, h2⟩
    · have := h.1.1; omega
    · rcases h.1.2 with h | ⟨h1, h2, h3, h4, h5⟩
      · exact .inl h
      · exact .inr ⟨h1, h2, h3, h4, by omega⟩
end Go.Proofs.YtpimecnpdpcceaaGreat.Lz

/- Proved: plain mathematics of packing, more: what is read says each copy where it may be. No condition. -/
namespace Go.Proofs.YtpimecnpdpcceaaGreat.Lz
open Go.Proofs.YtpimecnpdpcceaaGreat.Bit

theorem take_okT {has n : Nat} {l l1 : List Bool} {t : Tk} (hlt : has < n) (h : takeF has n l = (t, l1, 0)) : okT has n t := by
  unfold takeF at h
  generalize bitsF l 0 1 = c1 at h
  obtain ⟨bit, m1, x1⟩ := c1
  simp only at h
  split at h
  · generalize codeF m1 x1 = c2 at h
    obtain ⟨back, m2, x2⟩ := c2
    simp only at h
    generalize codeF m2 x2 = c3 at h
    obtain ⟨more, m3, x3⟩ := c3
    simp only at h
    split at h
    · rename_i h0
      simp only [Prod.mk.injEq] at h
      exact absurd h.2.2 h0
    · split at h
      · simp at h
      · split at h
        · simp at h
        · rename_i h1 h2 h3
          simp only [Prod.mk.injEq] at h
          obtain ⟨rfl, _, _⟩ := h
          exact ⟨hlt, .inr ⟨rfl, by simp, by simp; omega, by simp, by simp; omega⟩⟩
  · generalize bitsF m1 x1 8 = c2 at h
    obtain ⟨v, m2, x2⟩ := c2
    simp only at h
    split at h
    · rename_i h0
      simp only [Prod.mk.injEq] at h
      exact absurd h.2.2 h0
    · simp only [Prod.mk.injEq] at h
      obtain ⟨rfl, _, _⟩ := h
      exact ⟨hlt, .inl ⟨rfl, rfl⟩⟩
theorem takesF_step {n f has : Nat} {l : List Bool} {out : List Tk} (h : has < n) : takesF n (f + 1) has l out = if (takeF has n l).2.2 ≠ 0 then ([], (takeF has n l).2.1, (takeF has n l).2.2) else takesF n f (has + sizeT (takeF has n l).1) (takeF has n l).2.1 (out ++ [(takeF has n l).1]) := by
  rw [takesF, if_pos h]
theorem takesF_end (n f : Nat) (l : List Bool) (out : List Tk) (has : Nat) (h : n ≤ has) : takesF n f has l out = (out, l, 0) := by
  cases f with
  | zero => rfl
  | succ f => rw [takesF, if_neg (by omega)]
theorem takes_okL {n : Nat} : ∀ (f has : Nat) (l : List Bool) (out T : List Tk) (r : List Bool), has ≤ n → n - has ≤ f → okL has 0 out → takesF n f has l out = (T, r, 0) → okL n 0 T
  | f, has, l, out, T, r, hle, hf, ho, h => by
    by_cases hlt : has < n
    · cases f with
      | zero => omega
      | succ f =>
        rw [takesF_step hlt] at h
        split at h
        · rename_i h0
          simp only [Prod.mk.injEq] at h
          exact absurd h.2.2 h0
        · rename_i h0
          have h0 : (takeF has n l).2.2 = 0 := Decidable.not_not.1 h0
          have hok : okT has n (takeF has n l).1 := take_okT (l := l) (l1 := (takeF has n l).2.1) hlt (by rw [← h0])
          have hr := okT_room hok
          have hp := sizeT_pos (takeF has n l).1
          exact takes_okL f _ _ _ T r hr (by omega) (okL_snoc (n := n) out 0 ho hok hle) h
    · rw [takesF_end n f l out has (by omega)] at h
      simp only [Prod.mk.injEq] at h
      obtain ⟨rfl, _, _⟩ := h
      rwa [show has = n by omega] at ho
/-- What packed bytes say, if nothing was wrong. -/
theorem tokens_okL {s : List UInt8} (h : (tokensF s).2.2 = 0) : okL (tokensF s).2.1 0 (tokensF s).1 ∧ (tokensF s).2.1 ≤ 65536 := by
  unfold tokensF at h ⊢
  generalize codeF (ofL s) 0 = c at h ⊢
  obtain ⟨n, l, x⟩ := c
  simp only at h ⊢
  by_cases h1 : x ≠ 0
  · rw [if_pos h1] at h
    exact absurd h h1
  · rw [if_neg h1] at h ⊢
    by_cases h2 : 65536 < n
    · rw [if_pos h2] at h
      simp at h
    · rw [if_neg h2] at h ⊢
      generalize ht : takesF n n 0 l [] = c at h ⊢
      obtain ⟨out, l1, x1⟩ := c
      simp only at h ⊢
      by_cases h3 : x1 ≠ 0
      · rw [if_pos h3] at h
        exact absurd h h3
      · rw [if_neg h3] at h ⊢
        have h3' : x1 = 0 := Decidable.not_not.1 h3
        subst h3'
        by_cases h4 : doneF l1 0 ≠ 0
        · rw [if_pos h4] at h
          exact absurd h h4
        · rw [if_neg h4]
          exact ⟨takes_okL n 0 l [] out l1 (Nat.zero_le _) (Nat.sub_le _ _) rfl ht, Nat.le_of_not_lt h2⟩
theorem textT_len (T : List Tk) : (textT T).length = (T.map sizeT).sum := by
  have h : ∀ (T : List Tk) (o : List UInt8), (T.foldl stepT o).length = o.length + (T.map sizeT).sum := by
    intro T
    induction T with
    | nil => simp
    | cons t T ih => intro o; rw [List.foldl_cons, ih, stepT_len]; simp; omega
  rw [textT, h]
  simp
theorem okL_get {n : Nat} : ∀ (T : List Tk) (has k : Nat) (t : Tk), okL n has T → T[k]? = some t → okT (has + ((T.take k).map sizeT).sum) n t
  | [], _, _, _, _, h => by simp at h
  | t :: T, has, 0, x, ⟨h1, _⟩, h => by
    simp at h
    subst h
    simpa using h1
  | t :: T, has, k + 1, x, ⟨_, h2⟩, h => by
    have := okL_get T (has + sizeT t) k x h2 (by simpa using h)
    simpa [Nat.add_assoc] using this
theorem okL_at {n : Nat} {T : List Tk} (h : okL n 0 T) {k : Nat} {t : Tk} (hk : T[k]? = some t) : okT (textT (T.take k)).length n t := by
  have := okL_get T 0 k t h hk
  rwa [Nat.zero_add, ← textT_len] at this
theorem copyN_snoc (back : Nat) : ∀ (j : Nat) (out : List UInt8), copyN back (j + 1) out = copyN back j out ++ [(copyN back j out).getD ((copyN back j out).length - back) 0]
  | 0, out => rfl
  | j + 1, out => by
    rw [copyN, copyN_snoc back j]
    rfl
theorem okL_text {n : Nat} {T : List Tk} (h : okL n 0 T) : (textT T).length = n := by
  have := okL_sum T 0 h
  rw [textT_len]
  omega
end Go.Proofs.YtpimecnpdpcceaaGreat.Lz

/- Proved: plain mathematics of dumps: what is written is read as it was, no other bytes are that, what is cut off or goes on is none, one more is longer. Condition: bytes of prefixes are read as they were, and no others are (Cod). -/
namespace Go.Proofs.YtpimecnpdpcceaaGreat.Dm
open Go.Proofs.YtpimecnpdpcceaaGreat.V

/-! ### Numbers and texts, the other way round -/
theorem uintL_back (f : Nat) : ∀ (k m : Nat) (l : List UInt8) (v : Nat) (r : List UInt8), f + k = 10 → 0 < f → uintL f k m l 0 = (v, r, 0) → ∃ n, l = enc n ++ r ∧ v = m + n * 2 ^ (7 * k) ∧ (0 < k → 0 < n) := by
  induction f with
  | zero => intro k m l v r _ h0; omega
  | succ f ih =>
    intro k m l v r hk _ h
    cases l with
    | nil => rw [uintL_nil] at h; simp at h
    | cons c t =>
      rw [uintL_cons] at h
      split at h
      · simp at h
      · rename_i hno
        split at h
        · rename_i hc
          simp only [Prod.mk.injEq, and_true] at h
          refine ⟨c.toNat, ?_, ?_, fun h0 => ?_⟩
          · rw [enc_lt _ hc, ← h.2]
            simp
          · rw [← h.1, Nat.mod_eq_of_lt hc]
          · rcases Nat.eq_zero_or_pos c.toNat with h1 | h1
            · exact absurd (.inl ⟨h0, h1⟩) hno
            · exact h1
        · rename_i hc
          have hk9 : k ≠ 9 := fun e => hno (.inr ⟨e, by omega⟩)
          obtain ⟨n, h1, h2, h3⟩ := ih (k + 1) _ t v r (by omega) (by omega) h
          have hn := h3 (by omega)
          have hlt : c.toNat < 256 := c.toNat_lt
          refine ⟨c.toNat % 128 + 128 * n, ?_, ?_, fun _ => by omega⟩
          · rw [enc_ge _ (by omega), show (c.toNat % 128 + 128 * n) % 128 = c.toNat % 128 by omega, show (c.toNat % 128 + 128 * n) / 128 = n by omega, show c.toNat % 128 + 128 = c.toNat by omega, h1]
            simp
          · rw [h2, show 7 * (k + 1) = 7 * k + 7 by omega, Nat.pow_add, Nat.add_mul]
            rw [show 128 * n * 2 ^ (7 * k) = n * (2 ^ (7 * k) * 2 ^ 7) by rw [Nat.mul_comm 128 n, Nat.mul_assoc, Nat.mul_comm 128]]
            omega
theorem uintF_back {l : List UInt8} {v : Nat} {r : List UInt8} (h : uintF l 0 = (v, r, 0)) : l = enc v ++ r := by
  obtain ⟨n, h1, h2, _⟩ := uintL_back 10 0 0 l v r rfl (by omega) h
  simp at h2
  rw [h2]
  exact h1
/-- A text's bytes. -/
def tx (t : List UInt8) : List UInt8 := enc t.length ++ t
theorem rawF_ok (t r : List UInt8) : rawF (t ++ r) 0 t.length = (t, r, 0) := by
  unfold rawF
  rw [if_neg (by simp), if_neg (by omega), if_neg (by simp; omega)]
  simp
theorem textF_ok {t : List UInt8} (r : List UInt8) {most : Int} (h : (t.length : Int) ≤ most) (h2 : t.length < 2 ^ 64) : textF (tx t ++ r) 0 most = (t, r, 0) := by
  unfold textF tx
  rw [List.append_assoc, uintF_enc _ _ h2]
  simp only [ne_eq, not_true, if_false]
  rw [if_neg (by omega)]
  exact rawF_ok t r
theorem textF_back {l t r : List UInt8} {most : Int} (h : textF l 0 most = (t, r, 0)) : l = tx t ++ r ∧ (t.length : Int) ≤ most := by
  unfold textF at h
  obtain ⟨v, l1, x1⟩ : Nat × List UInt8 × Int := uintF l 0
  generalize hu : uintF l 0 = u at h
  obtain ⟨v, l1, x1⟩ := u
  simp only at h
  split at h
  · rename_i h0
    simp only [Prod.mk.injEq] at h
    exact absurd h.2.2 h0
  · rename_i h0
    have hx : x1 = 0 := Decidable.not_not.1 h0
    subst hx
    split at h
    · simp at h
    · rename_i hm
      have hl := uintF_back hu
      unfold rawF at h
      rw [if_neg (by simp), if_neg (by omega)] at h
      split at h
      · simp at h
      · rename_i hlen
        simp only [Int.toNat_natCast, Prod.mk.injEq, and_true] at h
        obtain ⟨h1, h2⟩ := h
        have ht : t.length = v := by rw [← h1, List.length_take]; omega
        refine ⟨?_, by omega⟩
        unfold tx
        rw [hl, ht, List.append_assoc, ← h1, ← h2, List.take_append_drop]

/-! ### What is in common -/
def com : List UInt8 → List UInt8 → Nat
  | a :: l, b :: m => if a = b then com l m + 1 else 0
  | _, _ => 0
theorem com_le : ∀ l m : List UInt8, com l m ≤ l.length ∧ com l m ≤ m.length
  | [], m => by cases m <;> simp [com]
  | a :: l, [] => by simp [com]
  | a :: l, b :: m => by
    have := com_le l m
    unfold com
    split <;> simp <;> omega
theorem com_take : ∀ l m : List UInt8, l.take (com l m) = m.take (com l m)
  | [], m => by cases m <;> simp [com]
  | a :: l, [] => by simp [com]
  | a :: l, b :: m => by
    have := com_take l m
    unfold com
    split
    · rename_i e
      simp [this, e]
    · simp
theorem com_nil (m : List UInt8) : com [] m = 0 := by cases m <;> rfl
/-- Of three. -/
theorem com_three : ∀ a r b : List UInt8, min (com a r) (com r b) ≤ com a b
  | [], r, b => by simp [com_nil]
  | _ :: _, [], b => by simp [com]
  | _ :: _, _ :: _, [] => by simp [com]
  | x :: a, y :: r, z :: b => by
    have := com_three a r b
    unfold com
    by_cases h1 : x = y
    · by_cases h2 : y = z
      · simp only [h1, h2, if_true]
        omega
      · simp [h2]
    · simp [h1]

/-! ### Dumps -/
variable {α : Type}
/-- How prefixes are written, read, and which come behind which. -/
structure Cod (α : Type) where
  pb : α → List UInt8
  whole : List UInt8 → Option α
  lt : α → α → Bool
  back : ∀ b p, whole b = some p → pb p = b
  short : ∀ p, (pb p).length ≤ 17
structure Rw (α : Type) where
  p : α
  m : Nat
  q : Nat
variable (C : Cod α)
def putR (last : List UInt8) (r : Rw α) : List UInt8 := enc (com last (C.pb r.p)) ++ (tx ((C.pb r.p).drop (com last (C.pb r.p))) ++ (enc r.m ++ enc r.q))
def goD : List UInt8 → List (Rw α) → List UInt8
  | _, [] => []
  | last, r :: l => putR C last r ++ goD (C.pb r.p) l
def dumpL (l : List (Rw α)) : List UInt8 := enc l.length ++ goD C [] l
/-- May one stand behind another one, or first? -/
def okR (prev : Option α) (r : Rw α) : Prop := C.whole (C.pb r.p) = some r.p ∧ (∀ p, prev = some p → C.lt p r.p = true) ∧ r.m < 65535 ∧ r.q < 4294967296
def okD : Option α → List (Rw α) → Prop
  | _, [] => True
  | prev, r :: l => okR C prev r ∧ okD (some r.p) l
def behind (prev : Option α) (p : α) : Bool := match prev with
  | none => true
  | some o => C.lt o p
def readOne (prev : Option α) (last s : List UInt8) : Except Int (Rw α × List UInt8 × List UInt8) :=
  let (k, s1, x1) := uintF s 0
  if x1 ≠ 0 then .error x1 else if last.length < k then .error 4 else
  let (t, s2, x2) := textF s1 0 17
  if x2 ≠ 0 then .error x2 else
  match C.whole (last.take k ++ t) with
  | none => .error 4
  | some p =>
    if com last (last.take k ++ t) ≠ k then .error 4 else if behind C prev p = false then .error 6 else
    let (m, s3, x3) := uintF s2 0
    if x3 ≠ 0 then .error x3 else if 65535 ≤ m then .error 1 else
    let (q, s4, x4) := uintF s3 0
    if x4 ≠ 0 then .error x4 else if 4294967296 ≤ q then .error 7 else .ok (⟨p, m, q⟩, last.take k ++ t, s4)
def readN : Nat → Option α → List UInt8 → List UInt8 → Except Int (List (Rw α) × List UInt8)
  | 0, _, _, s => .ok ([], s)
  | n + 1, prev, last, s => match readOne C prev last s with
    | .error x => .error x
    | .ok (r, b, s') => match readN n (some r.p) b s' with
      | .error x => .error x
      | .ok (l, s'') => .ok (r :: l, s'')
def readD (s : List UInt8) : Except Int (List (Rw α)) :=
  let (n, s1, x1) := uintF s 0
  if x1 ≠ 0 then .error x1 else if 300 < n then .error 7 else
  match readN C n none [] s1 with
  | .error x => .error x
  | .ok (l, s2) => if s2 = [] then .ok l else .error 4
variable {C}
theorem behind_iff {prev : Option α} {p : α} : behind C prev p = true ↔ ∀ o, prev = some o → C.lt o p = true := by
  cases prev with
  | none => simp [behind]
  | some o => simp [behind]
theorem one_ok {prev : Option α} {r : Rw α} (h : okR C prev r) (last s : List UInt8) : readOne C prev last (putR C last r ++ s) = .ok (r, C.pb r.p, s) := by
  obtain ⟨h1, h2, h3, h4⟩ := h
  obtain ⟨c1, c2⟩ := com_le last (C.pb r.p)
  have hs := C.short r.p
  have hb : last.take (com last (C.pb r.p)) ++ (C.pb r.p).drop (com last (C.pb r.p)) = C.pb r.p := by rw [com_take, List.take_append_drop]
  have hbe : behind C prev r.p = true := behind_iff.2 h2
  unfold readOne putR
  rw [List.append_assoc, uintF_enc _ _ (by omega)]
  simp only [ne_eq, not_true, if_false]
  rw [if_neg (by omega), List.append_assoc, textF_ok _ (by rw [List.length_drop]; omega) (by rw [List.length_drop]; omega)]
  simp only [not_true, if_false, hb, h1, hbe]
  rw [if_neg (by simp), List.append_assoc, uintF_enc _ _ (by omega)]
  simp only [not_true, if_false]
  rw [if_neg (by omega), uintF_enc _ _ (by omega)]
  simp only [not_true, if_false]
  rw [if_neg (by omega)]
theorem one_back {prev : Option α} {last s b s' : List UInt8} {r : Rw α} (h : readOne C prev last s = .ok (r, b, s')) : s = putR C last r ++ s' ∧ b = C.pb r.p ∧ okR C prev r := by
  unfold readOne at h
  generalize hu : uintF s 0 = u at h
  obtain ⟨k, s1, x1⟩ := u
  simp only at h
  split at h
  · cases h
  rename_i e1
  split at h
  · cases h
  rename_i hk
  generalize ht : textF s1 0 17 = u at h
  obtain ⟨t, s2, x2⟩ := u
  simp only at h
  split at h
  · cases h
  rename_i e2
  split at h
  · cases h
  rename_i p hw
  split at h
  · cases h
  rename_i hc
  split at h
  · cases h
  rename_i hbe
  generalize hm : uintF s2 0 = u at h
  obtain ⟨m, s3, x3⟩ := u
  simp only at h
  split at h
  · cases h
  rename_i e3
  split at h
  · cases h
  rename_i hm2
  generalize hq : uintF s3 0 = u at h
  obtain ⟨q, s4, x4⟩ := u
  simp only at h
  split at h
  · cases h
  rename_i e4
  split at h
  · cases h
  rename_i hq2
  have hx1 : x1 = 0 := Decidable.not_not.1 e1
  have hx2 : x2 = 0 := Decidable.not_not.1 e2
  have hx3 : x3 = 0 := Decidable.not_not.1 e3
  have hx4 : x4 = 0 := Decidable.not_not.1 e4
  subst hx1
  subst hx2
  subst hx3
  subst hx4
  simp only [Except.ok.injEq, Prod.mk.injEq] at h
  obtain ⟨rfl, rfl, rfl⟩ := h
  have hpb := C.back _ _ hw
  have hcom : com last (C.pb p) = k := by rw [hpb]; exact Decidable.not_not.1 hc
  refine ⟨?_, hpb.symm, ?_, ?_, by dsimp only; omega, by dsimp only; omega⟩
  · unfold putR
    simp only [hcom]
    have hd : (C.pb p).drop k = t := by
      rw [hpb, List.drop_append_of_le_length (by rw [List.length_take]; omega), List.drop_of_length_le (by rw [List.length_take]; omega), List.nil_append]
    rw [hd, uintF_back hu, (textF_back ht).1, uintF_back hm, uintF_back hq]
    simp [List.append_assoc]
  · rw [hpb]
    exact hw
  · exact behind_iff.1 (by simpa using hbe)
theorem n_ok : ∀ (l : List (Rw α)) (prev : Option α) (last s : List UInt8), okD C prev l → readN C l.length prev last (goD C last l ++ s) = .ok (l, s)
  | [], prev, last, s, _ => by simp [readN, goD]
  | r :: l, prev, last, s, h => by
    rw [List.length_cons, readN, goD, List.append_assoc, one_ok h.1]
    simp only [n_ok l (some r.p) (C.pb r.p) s h.2]
theorem n_back : ∀ (n : Nat) (prev : Option α) (last s : List UInt8) (l : List (Rw α)) (s' : List UInt8), readN C n prev last s = .ok (l, s') → l.length = n ∧ s = goD C last l ++ s' ∧ okD C prev l
  | 0, prev, last, s, l, s', h => by
    simp only [readN, Except.ok.injEq, Prod.mk.injEq] at h
    obtain ⟨rfl, rfl⟩ := h
    exact ⟨rfl, rfl, trivial⟩
  | n + 1, prev, last, s, l, s', h => by
    rw [readN] at h
    split at h
    · cases h
    rename_i r b s1 h1
    split at h
    · cases h
    rename_i l1 s2 h2
    simp only [Except.ok.injEq, Prod.mk.injEq] at h
    obtain ⟨rfl, rfl⟩ := h
    obtain ⟨k1, k2, k3⟩ := one_back h1
    obtain ⟨j1, j2, j3⟩ := n_back n _ _ _ _ _ h2
    refine ⟨by simp [j1], ?_, k3, j3⟩
    rw [goD, k1, j2, k2, List.append_assoc]
/-- What is dumped is read as it was; with more behind it, it is none. -/
theorem d_more {l : List (Rw α)} (h : okD C none l) (hl : l.length ≤ 300) (s : List UInt8) : readD C (dumpL C l ++ s) = if s = [] then .ok l else .error 4 := by
  unfold readD dumpL
  rw [List.append_assoc, uintF_enc _ _ (by omega)]
  simp only [ne_eq, not_true, if_false]
  rw [if_neg (by omega), n_ok l none [] s h]
theorem d_ok {l : List (Rw α)} (h : okD C none l) (hl : l.length ≤ 300) : readD C (dumpL C l) = .ok l := by
  have := d_more h hl []
  rwa [List.append_nil, if_pos rfl] at this
/-- No other bytes are that. -/
theorem d_back {s : List UInt8} {l : List (Rw α)} (h : readD C s = .ok l) : s = dumpL C l ∧ okD C none l ∧ l.length ≤ 300 := by
  unfold readD at h
  generalize hu : uintF s 0 = u at h
  obtain ⟨n, s1, x1⟩ := u
  simp only at h
  split at h
  · cases h
  rename_i e1
  split at h
  · cases h
  rename_i hn
  split at h
  · cases h
  rename_i l1 s2 h1
  split at h
  · rename_i hs
    simp only [Except.ok.injEq] at h
    subst h
    have hx1 : x1 = 0 := Decidable.not_not.1 e1
    subst hx1
    obtain ⟨k1, k2, k3⟩ := n_back _ _ _ _ _ _ h1
    refine ⟨?_, k3, by omega⟩
    unfold dumpL
    rw [uintF_back hu, k2, k1, hs, List.append_nil]
  · cases h
/-- What is cut off is none. -/
theorem d_cut {l : List (Rw α)} (h : okD C none l) (hl : l.length ≤ 300) (j : Nat) (hj : j < (dumpL C l).length) : ∀ l', readD C ((dumpL C l).take j) ≠ .ok l' := by
  intro l' h'
  obtain ⟨h1, h2, h3⟩ := d_back h'
  have h4 := d_more h2 h3 ((dumpL C l).drop j)
  rw [← h1, List.take_append_drop, d_ok h hl, if_neg] at h4
  · cases h4
  · intro e
    have := congrArg List.length e
    rw [List.length_drop] at this
    simp at this
    omega
theorem d_inj {l m : List (Rw α)} (h1 : okD C none l) (k1 : l.length ≤ 300) (h2 : okD C none m) (k2 : m.length ≤ 300) (h : dumpL C l = dumpL C m) : l = m := by
  have e := d_ok h1 k1
  rw [h, d_ok h2 k2] at e
  injection e with e
  exact e.symm
/-! ### One more is longer -/
theorem enc_mono : ∀ (a b : Nat), a ≤ b → (enc a).length ≤ (enc b).length := by
  intro a
  induction a using Nat.strongRecOn with
  | ind a ih =>
    intro b h
    by_cases ha : a < 128
    · rw [enc_lt _ ha]
      exact enc_pos b
    · rw [enc_ge _ ha, enc_ge b (by omega), List.length_cons, List.length_cons]
      have := ih (a / 128) (by omega) (b / 128) (by omega)
      omega
theorem put_len (last : List UInt8) (r : Rw α) : (putR C last r).length = 1 + (1 + ((C.pb r.p).length - com last (C.pb r.p))) + ((enc r.m).length + (enc r.q).length) := by
  have hs := C.short r.p
  obtain ⟨_, c2⟩ := com_le last (C.pb r.p)
  unfold putR tx
  simp only [List.length_append, List.length_drop]
  rw [enc_lt (com last (C.pb r.p)) (by omega), enc_lt ((C.pb r.p).length - com last (C.pb r.p)) (by omega)]
  simp
  omega
theorem go_more (r : Rw α) : ∀ (A B : List (Rw α)) (last : List UInt8), (goD C last (A ++ B)).length < (goD C last (A ++ r :: B)).length
  | [], [], last => by
    have := put_len (C := C) last r
    simp only [List.nil_append, goD, List.append_nil, List.length_nil]
    omega
  | [], b :: B, last => by
    have h1 := put_len (C := C) last r
    have h2 := put_len (C := C) (C.pb r.p) b
    have h3 := put_len (C := C) last b
    have h4 := com_three last (C.pb r.p) (C.pb b.p)
    obtain ⟨c1, c2⟩ := com_le last (C.pb r.p)
    obtain ⟨c3, c4⟩ := com_le (C.pb r.p) (C.pb b.p)
    obtain ⟨c5, c6⟩ := com_le last (C.pb b.p)
    simp only [List.nil_append, goD, List.length_append]
    omega
  | a :: A, B, last => by
    have := go_more r A B (C.pb a.p)
    simp only [List.cons_append, goD, List.length_append]
    omega
theorem d_more_len (r : Rw α) (A B : List (Rw α)) : (dumpL C (A ++ B)).length < (dumpL C (A ++ r :: B)).length := by
  have h1 := go_more (C := C) r A B []
  have h2 := enc_mono (A ++ B).length (A ++ r :: B).length (by simp)
  have e1 : (dumpL C (A ++ B)).length = (enc (A ++ B).length).length + (goD C [] (A ++ B)).length := List.length_append
  have e2 : (dumpL C (A ++ r :: B)).length = (enc (A ++ r :: B).length).length + (goD C [] (A ++ r :: B)).length := List.length_append
  omega
/-- How long a dump is at most. -/
theorem go_len : ∀ (l : List (Rw α)) (last : List UInt8), (∀ r ∈ l, r.m < 65535 ∧ r.q < 4294967296) → (goD C last l).length ≤ (l.map fun r => 1 + 1 + (C.pb r.p).length + 3 + 5).sum
  | [], last, _ => by simp [goD]
  | r :: l, last, h => by
    have h1 := put_len (C := C) last r
    have h2 := go_len l (C.pb r.p) (fun x hx => h x (by simp [hx]))
    obtain ⟨hm, hq⟩ := h r (by simp)
    have h3 := enc_len 2 r.m (by omega)
    have h4 := enc_len 4 r.q (by omega)
    rw [goD, List.length_append, List.map_cons, List.sum_cons]
    omega
end Go.Proofs.YtpimecnpdpcceaaGreat.Dm

/- Proved: a map from texts to numbers in memory: what is looked up, what is put in. No condition. -/
namespace Go.Proofs.YtpimecnpdpcceaaGreat
open Go.RowKit

theorem zstr : Tryz.prog.underlying 9 = some .string := by kernel_rfl
theorem zcheck (em : Bool) (q : ByteArray) (w : World) : (Instr.checkKey em 10000 9 (.string q)).run Tryz.prog w = .ok () w := MapKept.run_checkKey zstr (by simp [MapKept.IsKey]) em 9999
theorem zbits (q : ByteArray) : Instr.sameBits 10000 (.string q) (.string q) = true := by
  simp [Instr.sameBits, MapKept.bytes_beq]

/-- Block b is a map; of each of its texts and numbers this is so. -/
def MapZ (w : World) (b : Nat) (Pr : List UInt8 → Nat → Prop) : Prop :=
  ∃ es clock, w.heap[b]? = some (.map es clock) ∧ ∀ e ∈ es.toList, ∃ (k : List UInt8) (v : Nat), e.key = .string ⟨k.toArray⟩ ∧ e.val = .int .i64 v ∧ Pr k v
theorem MapZ.keep {w w' : World} {b : Nat} {Pr : List UInt8 → Nat → Prop} (h : MapZ w b Pr) (k : Keep w w') : MapZ w' b Pr := by
  obtain ⟨es, c, h1, h2⟩ := h
  exact ⟨es, c, k.obj h1, h2⟩
theorem MapZ.mono {w : World} {b : Nat} {Pr Qr : List UInt8 → Nat → Prop} (h : MapZ w b Pr) (k : ∀ q v, Pr q v → Qr q v) : MapZ w b Qr := by
  obtain ⟨es, c, h1, h2⟩ := h
  refine ⟨es, c, h1, fun e he => ?_⟩
  obtain ⟨q, v, a, b, d⟩ := h2 e he
  exact ⟨q, v, a, b, k q v d⟩
theorem MapZ.made (w : World) (Pr : List UInt8 → Nat → Prop) : MapZ (w.alloc (.map #[] 0)) w.heap.size Pr := ⟨#[], 0, heap_alloc_last w _, fun e he => by simp at he⟩
theorem MapZ.lt {w : World} {b : Nat} {Pr : List UInt8 → Nat → Prop} (h : MapZ w b Pr) : b < w.heap.size := by
  obtain ⟨es, c, h1, _⟩ := h
  exact block_lt h1
theorem MapZ.grown {w w' : World} {b : Nat} {Pr : List UInt8 → Nat → Prop} (h : MapZ w b Pr) (hb : w'.heap[b]? = w.heap[b]?) : MapZ w' b Pr := by
  obtain ⟨es, c, h1, h2⟩ := h
  exact ⟨es, c, by rw [hb, h1], h2⟩

theorem zunder : Tryz.prog.underlying 122 = some (.map 9 3) := by kernel_rfl
theorem zzero (w : World) : (zeroValue 3).run Tryz.prog w = .ok (.int .i64 0) w := by kernel_rfl
theorem zfound (q : List UInt8) (Pr : List UInt8 → Nat → Prop) (w : World) (es : List MapEntry) (h : ∀ e ∈ es, ∃ (k : List UInt8) (v : Nat), e.key = .string ⟨k.toArray⟩ ∧ e.val = .int .i64 v ∧ Pr k v) :
    ∃ r, (Instr.findKey 9 (.string ⟨q.toArray⟩) es).run Tryz.prog w = .ok r w ∧ (r = none ∨ ∃ (j v : Nat) (e0 : MapEntry), r = some (j, .int .i64 v) ∧ Pr q v ∧ es[j]? = some e0 ∧ e0.key = .string ⟨q.toArray⟩) := by
  have hs := MapKept.findNow_spec (d := .string) (k := .string ⟨q.toArray⟩) (by simp [MapKept.IsKey]) es 0 (fun x hx => by
    obtain ⟨k, v, h1, _⟩ := h x hx
    rw [h1]
    simp [MapKept.IsKey])
  rcases hs with ⟨h1, _⟩ | ⟨j, e, h1, h2, h3⟩
  · exact ⟨none, MapKept.run_findKey zstr h1, .inl rfl⟩
  · obtain ⟨k, v, a, b, c⟩ := h e (List.mem_of_getElem? h2)
    rw [h3] at a
    have hk : q = k := by simpa using a
    subst hk
    rw [b, Nat.zero_add] at h1
    exact ⟨_, MapKept.run_findKey zstr h1, .inr ⟨j, v, e, rfl, c, h2, h3⟩⟩
theorem MapZ.look {w : World} {b : Nat} {Pr : List UInt8 → Nat → Prop} (h : MapZ w b Pr) (q : List UInt8) : ∃ (z : Nat) (ok : Bool), (Instr.lookup 122 (.map (some b)) (.string ⟨q.toArray⟩) true).run Tryz.prog w = .ok (.tuple #[.int .i64 z, .bool ok]) w ∧ (ok = true → Pr q z) := by
  obtain ⟨es, clock, hb, he⟩ := h
  obtain ⟨r, hf, hr⟩ := zfound q Pr w es.toList he
  have hk := fun em => zcheck em ⟨q.toArray⟩ w
  rcases hr with rfl | ⟨j, v, e0, rfl, hp, _⟩
  · refine ⟨0, false, ?_, fun h => by cases h⟩
    unfold Instr.lookup
    simp only [Sem.run_bind, run_underlying zunder, MapKept.run_getObj_map hb, hk, hf, Result.andThen_ok, Sem.run_pure]
    simp
  · refine ⟨v, true, ?_, fun _ => hp⟩
    unfold Instr.lookup
    simp only [Sem.run_bind, run_underlying zunder, MapKept.run_getObj_map hb, hk, hf, Result.andThen_ok, Sem.run_pure]
    simp
theorem zOnly {b : Nat} (w : World) (o : Obj) : Only b w { w with heap := w.heap.setIfInBounds b o } :=
  ⟨rfl, rfl, rfl, by simp, fun k _ hb => by
    simp only [Array.getElem?_setIfInBounds]
    rw [if_neg (Ne.symm hb)]⟩
theorem MapZ.upd {w : World} {b : Nat} {Pr : List UInt8 → Nat → Prop} (h : MapZ w b Pr) (q : List UInt8) (z : Nat) : ∃ w', (Instr.mapUpdate 122 (.map (some b)) (.string ⟨q.toArray⟩) (.int .i64 z)).run Tryz.prog w = .ok () w' ∧ MapZ w' b (fun k v => Pr k v ∨ (k = q ∧ v = z)) ∧ Only b w w' := by
  obtain ⟨es, clock, hb, he⟩ := h
  obtain ⟨r, hf, hr⟩ := zfound q Pr w es.toList he
  have hk := fun em => zcheck em ⟨q.toArray⟩ w
  have hlt := block_lt hb
  rcases hr with rfl | ⟨j, v, e0, rfl, hp, he0, hkey⟩
  · refine ⟨{ w with heap := w.heap.setIfInBounds b (.map (es.push { key := .string ⟨q.toArray⟩, val := .int .i64 z, born := clock }) (clock + 1)) }, ?_, ⟨es.push { key := .string ⟨q.toArray⟩, val := .int .i64 z, born := clock }, clock + 1, ?_, ?_⟩, zOnly (b := b) w _⟩
    · unfold Instr.mapUpdate
      simp only [Sem.run_bind, run_underlying zunder, MapKept.run_getObj_map hb, hk, hf, Result.andThen_ok]
      exact MapKept.run_setObj_map _ hb
    · simp [hlt]
    · intro e h1
      rw [Array.toList_push, List.mem_append] at h1
      rcases h1 with h1 | h1
      · obtain ⟨k, v, a, b, c⟩ := he e h1
        exact ⟨k, v, a, b, .inl c⟩
      · simp at h1
        subst h1
        exact ⟨q, z, rfl, rfl, .inr ⟨rfl, rfl⟩⟩
  · have hst : (Instr.keyThatStays (((es[j]?).map (·.key)).getD (.string ⟨q.toArray⟩)) (.string ⟨q.toArray⟩)).run Tryz.prog w = .ok (.string ⟨q.toArray⟩) w := by
      have he1 : es[j]? = some e0 := by simpa using he0
      unfold Instr.keyThatStays
      rw [he1]
      simp [hkey, zbits]
    refine ⟨{ w with heap := w.heap.setIfInBounds b (.map (es.modify j fun e => { e with key := .string ⟨q.toArray⟩, val := .int .i64 z }) clock) }, ?_, ⟨es.modify j fun e => { e with key := .string ⟨q.toArray⟩, val := .int .i64 z }, clock, ?_, ?_⟩, zOnly (b := b) w _⟩
    · unfold Instr.mapUpdate
      simp only [Sem.run_bind, run_underlying zunder, MapKept.run_getObj_map hb, hk, hf, Result.andThen_ok, hst]
      exact MapKept.run_setObj_map _ hb
    · simp [hlt]
    · intro e h1
      obtain ⟨k, hk1, hk2⟩ := List.getElem_of_mem h1
      have h3 := List.getElem?_eq_getElem hk1
      rw [hk2] at h3
      simp only [Array.toList_modify, List.getElem?_modify] at h3
      by_cases ej : j = k
      · subst ej
        rw [he0] at h3
        simp at h3
        subst h3
        exact ⟨q, z, rfl, rfl, .inr ⟨rfl, rfl⟩⟩
      · simp [ej] at h3
        obtain ⟨k', v', a, b, c⟩ := he e (List.mem_of_getElem? (i := k) (by simpa using h3))
        exact ⟨k', v', a, b, .inl c⟩
end Go.Proofs.YtpimecnpdpcceaaGreat
