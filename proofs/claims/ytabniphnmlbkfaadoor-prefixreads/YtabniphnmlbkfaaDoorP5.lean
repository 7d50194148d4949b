/- Proved: the order of prefixes and what they contain, of addresses as lists of bytes; what is written is read as it was. No condition but lengths. -/
import Derived.Test.YtabniphnmlbkfaaDoorO
namespace Go.Proofs.YtabniphnmlbkfaaDoor
open Go.RowKit

def toP (p : Px) : X.P := ⟨p.six, X.num p.addr, p.len⟩
theorem toP_inj (p q : Px) (hp : p.addr.length = 16) (hq : q.addr.length = 16) (h : toP p = toP q) : p = q := by
  obtain ⟨s, l, n⟩ := p
  obtain ⟨t, m, k⟩ := q
  simp only [toP, X.P.mk.injEq] at h
  obtain ⟨rfl, h2, rfl⟩ := h
  rw [X.num_inj l m (by simp only at hp hq; omega) h2]
theorem bit_toP (l : List UInt8) (hl : l.length = 16) (i : Nat) (hi : i < 128) : X.bitN (X.num l) i = bitOf l i := by
  rw [X.bit_num l hl i hi]
  unfold bitOf
  simp [show i / 8 < l.length by omega]
theorem right_toP (p : Px) (hp : p.addr.length = 16) : rightP p ↔ (toP p).right := by
  unfold rightP X.P.right
  have hm : X.most p.six = 8 * (sizeN p.six : Int) := by cases h : p.six <;> simp [X.most, sizeN]
  simp only [toP]
  rw [hm]
  constructor
  · rintro ⟨h1, h2, h3⟩
    have hs := sizeN_le p.six
    refine ⟨h1, h2, (X.tail_zero _ _ (by omega)).1 fun j h4 h5 => ?_⟩
    rw [bit_toP p.addr hp j h5]
    exact h3 j h4 h5
  · rintro ⟨h1, h2, h3⟩
    have hs := sizeN_le p.six
    refine ⟨h1, h2, fun j h4 h5 => ?_⟩
    rw [← bit_toP p.addr hp j h5]
    exact (X.tail_zero _ _ (by omega)).2 h3 j h4 h5
theorem cmp_toP (p q : Px) (hp : p.addr.length = 16) (hq : q.addr.length = 16) : cmpP p q = X.cmp (toP p) (toP q) := by
  have hn := X.lex_num p.addr q.addr (by omega)
  have hz : X.lex p.addr q.addr = 0 ↔ X.num p.addr = X.num q.addr := by
    rw [hn]
    unfold X.cmpI
    constructor
    · intro h
      split at h
      · omega
      · split at h <;> omega
    · intro h
      rw [h]
      simp
  unfold cmpP X.cmp toP
  by_cases hs : p.six = q.six
  · by_cases he : X.num p.addr = X.num q.addr
    · simp [hs, he, hz.2 he]
    · have h0 : ¬ X.lex p.addr q.addr = 0 := fun h => he (hz.1 h)
      rw [if_pos hs, if_neg h0]
      simp [hs, he, hn]
  · simp [hs]
theorem comm_toP (l m : List UInt8) (hl : l.length = 16) (hm : m.length = 16) : ∀ n k, k + n ≤ 128 → comm l m n k = X.common (X.num l) (X.num m) n k
  | 0, k, _ => rfl
  | n + 1, k, h => by
    rw [comm, X.common, bit_toP l hl k (by omega), bit_toP m hm k (by omega), comm_toP l m hl hm n (k + 1) (by omega)]
theorem has_toP (p q : Px) (hp : p.addr.length = 16) (hq : q.addr.length = 16) : hasB p q = true ↔ (toP p).has (toP q) := by
  simp only [hasB, decide_eq_true_eq]
  unfold X.P.has
  rw [← right_toP p hp, ← right_toP q hq]
  constructor
  · rintro ⟨h1, h2, h3⟩
    have hs := sizeN_le p.six
    have h4 := h1.1
    have h5 := h1.2.1
    have h6 := h2.1
    unfold commonZ at h3
    by_cases h : p.six = q.six ∧ rightP p ∧ rightP q
    · rw [if_pos h] at h3
      have h7 := comm_le p.addr q.addr (min p.len q.len).toNat 0
      have hle : p.len ≤ q.len := by omega
      refine ⟨h1, h2, h.1, hle, ?_⟩
      rw [comm_toP p.addr q.addr hp hq _ _ (by omega)] at h3
      have h8 := X.common_same (X.num p.addr) (X.num q.addr) (min p.len q.len).toNat 0 (by omega) (X.same_zero _ _ (by have := X.num_lt p.addr; rw [hp] at this; exact this) (by have := X.num_lt q.addr; rw [hq] at this; exact this))
      have h9 : X.common (X.num p.addr) (X.num q.addr) (min p.len q.len).toNat 0 = p.len.toNat := by omega
      rw [h9] at h8
      exact h8.1
    · rw [if_neg h] at h3
      omega
  · rintro ⟨h1, h2, h3, h4, h5⟩
    have hs := sizeN_le p.six
    have hs2 := sizeN_le q.six
    have g1 := h1.1
    have g2 := h1.2.1
    have g3 := h2.2.1
    refine ⟨h1, h2, ?_⟩
    unfold commonZ
    rw [if_pos ⟨h3, h1, h2⟩, comm_toP p.addr q.addr hp hq _ _ (by omega)]
    have hn : (min p.len q.len).toNat = p.len.toNat := by
      have : p.len ≤ q.len := h4
      omega
    rw [hn]
    have a1 := X.common_most (X.num p.addr) (X.num q.addr) p.len.toNat 0 p.len.toNat (by omega) (by omega) h5 (by omega)
    have a2 := X.common_same (X.num p.addr) (X.num q.addr) p.len.toNat 0 (by omega) (X.same_zero _ _ (by have := X.num_lt p.addr; rw [hp] at this; exact this) (by have := X.num_lt q.addr; rw [hq] at this; exact this))
    omega
theorem and_one (n : Int) : bits .and .i64 n 1 = n % 2 := by
  have h1 : (BitVec.ofInt 64 1).toNat = 2 ^ 1 - 1 := by decide
  have key : (BitVec.ofInt 64 n &&& BitVec.ofInt 64 1).toNat = (n % ((2 ^ 64 : Nat) : Int)).toNat % 2 ^ 1 := by
    rw [BitVec.toNat_and, BitVec.toNat_ofInt, h1, Nat.and_two_pow_sub_one_eq_mod]
  show IntKind.i64.wrap ((BitVec.ofInt 64 n &&& BitVec.ofInt 64 1).toNat : Nat) = n % 2
  rw [key, IntKind.wrap_i64]
  omega
theorem and_int (c r : Nat) (hc : c < 256) : bits .and .i64 (wrap64 ((c : Int) / 2 ^ r)) 1 = ((c / 2 ^ r % 2 : Nat) : Int) := by
  have h2 : c / 2 ^ r ≤ c := Nat.div_le_self _ _
  have hw : wrap64 ((c : Int) / 2 ^ r) = ((c / 2 ^ r : Nat) : Int) := by
    rw [show ((c : Int) / 2 ^ r) = ((c / 2 ^ r : Nat) : Int) by simp]
    generalize c / 2 ^ r = z at *
    unfold wrap64
    omega
  rw [hw, and_one]
  omega
theorem GivesT.at {f : FuncId} {args : Array Value} {v : Value} (h : GivesT f args v) {w0 : World} (ht : Tab w0) (u : SW w0) : Calls Tryd.prog f args u.1 fun e w'' => e = .returned v ∧ ∃ m : SW w0, w'' = m.1 :=
  (h u.1 (ht.mono u.2)).mono fun _ w' ⟨he, hb⟩ => ⟨he, ⟨w', u.2.trans hb⟩, rfl⟩
theorem cmpP_fits (p q : Px) : cmpP p q = -1 ∨ cmpP p q = 0 ∨ cmpP p q = 1 := by
  unfold cmpP
  split
  · split
    · unfold X.cmpI
      split
      · simp
      · split <;> simp
    · have := lex_fits p.addr q.addr
      omega
  · split <;> simp
end Go.Proofs.YtabniphnmlbkfaaDoor
