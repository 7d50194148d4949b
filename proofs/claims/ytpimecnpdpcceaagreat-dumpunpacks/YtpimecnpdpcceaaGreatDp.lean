/- Proved: plain mathematics of prefixes' bytes: what is written is read as it was, and what is read is what is written; how dumps write and read them. No condition but lengths. -/
import Derived.Test.YtpimecnpdpcceaaGreatMx
import Derived.Test.YtpimecnpdpcceaaGreatMl
import Derived.Test.YtpimecnpdpcceaaGreatMt
namespace Go.Proofs.YtpimecnpdpcceaaGreat
open Go.RowKit

theorem byte_zero (l : List UInt8) (a i : Nat) (_hl : l.length = 16) (h : tailZ l a) (hi : i < 16) (ha : a ≤ 8 * i) : l.getD i 0 = 0 := by
  apply byte_ext
  intro j hj
  have := h (8 * i + j) (by omega) (by omega)
  unfold bitOf at this
  rw [show (8 * i + j) / 8 = i by omega, show (8 * i + j) % 8 = j by omega] at this
  rw [this]
  simp
theorem get_ext (l m : List UInt8) (hl : l.length = 16) (hm : m.length = 16) (h : ∀ i, i < 16 → l.getD i 0 = m.getD i 0) : l = m := by
  apply List.ext_getElem (by omega)
  intro i h1 h2
  have := h i (by omega)
  simpa [h1, h2] using this
theorem pad_back (p : Px) (hp : p.addr.length = 16) (hr : rightP p) : padL (p.addr.take (needN p.len.toNat)) = p.addr := by
  refine get_ext _ _ (padL_len _) hp fun i hi => ?_
  rw [padL_get _ i hi, take_get]
  by_cases h : i < needN p.len.toNat
  · rw [if_pos h]
  · rw [if_neg h, byte_zero p.addr p.len.toNat i hp hr.2.2 hi (by unfold needN at h; omega)]
theorem head_back (p : Px) (hr : rightP p) : sixOf (headN p) = p.six ∧ lenOf (headN p) = p.len.toNat := by
  have h1 := hr.2.1
  unfold sixOf lenOf headN
  cases hs : p.six
  · rw [hs] at h1
    simp only [sizeN, Bool.false_eq_true, if_false] at h1 ⊢
    constructor
    · simp; omega
    · rw [if_neg (by omega)]; omega
  · rw [hs] at h1
    simp only [sizeN, if_true] at h1 ⊢
    constructor
    · simp
    · rw [if_pos (by omega)]; omega
theorem take_back (p : Px) (more : List UInt8) (hp : p.addr.length = 16) (hr : rightP p) : takeF (bytesL p ++ more) 0 = (p, 0, more, 0) := by
  have hh := head_lt p hr
  obtain ⟨h1, h2⟩ := head_back p hr
  have hb : V.byteF (bytesL p ++ more) 0 = (UInt8.ofNat (headN p), p.addr.take (needN p.len.toNat) ++ more, 0) := by
    unfold V.byteF bytesL
    rw [if_neg (by simp)]
    rfl
  have hs := sizeN_le p.six
  have g1 := hr.1
  have g2 := hr.2.1
  have hn : needN p.len.toNat ≤ 16 := by unfold needN; omega
  have hlen : (p.addr.take (needN p.len.toNat)).length = needN p.len.toNat := by simp; omega
  have hraw : V.rawF (p.addr.take (needN p.len.toNat) ++ more) 0 (needN p.len.toNat : Nat) = (p.addr.take (needN p.len.toNat), more, 0) := by
    unfold V.rawF
    rw [if_neg (by simp), if_neg (by omega), if_neg (by rw [List.length_append, hlen]; omega), Int.toNat_natCast, List.take_left' hlen, List.drop_left' hlen]
  unfold takeF
  rw [hb]
  simp only
  rw [UInt8.toNat_ofNat_of_lt' (by simpa [UInt8.size] using hh)]
  unfold tailF
  rw [h1, h2, hraw]
  simp only
  have hl : ((p.len.toNat : Nat) : Int) = p.len := by omega
  rw [hl, pad_back p hp hr, if_pos (by simp [fitsB]; omega), if_pos trivial, if_pos hr]

/-- What is read is what would be written. -/
theorem take_fwd {b : List UInt8} (h : (takeF b 0).2.1 = 0) : b = bytesL (takeF b 0).1 ++ (takeF b 0).2.2.1 ∧ rightP (takeF b 0).1 ∧ (takeF b 0).2.2.2 = 0 := by
  cases b with
  | nil =>
    exfalso
    unfold takeF at h
    rw [V.byteF_nil] at h
    revert h
    decide
  | cons c l =>
    unfold takeF at h ⊢
    rw [V.byteF_cons] at h ⊢
    simp only at h ⊢
    unfold tailF at h ⊢
    by_cases h1 : fitsB (sixOf c.toNat) (lenOf c.toNat : Nat) = true
    · rw [if_pos h1] at h ⊢
      by_cases h2 : (V.rawF l 0 (needN (lenOf c.toNat) : Nat)).2.2 = 0
      · rw [if_pos h2] at h ⊢
        have hraw : needN (lenOf c.toNat) ≤ l.length ∧ V.rawF l 0 (needN (lenOf c.toNat) : Nat) = (l.take (needN (lenOf c.toNat)), l.drop (needN (lenOf c.toNat)), 0) := by
          unfold V.rawF at h2 ⊢
          rw [if_neg (by simp), if_neg (by omega)] at h2 ⊢
          by_cases h3 : (l.length : Int) < (needN (lenOf c.toNat) : Nat)
          · rw [if_pos h3] at h2
            simp at h2
          · rw [if_neg h3]
            exact ⟨by omega, by rw [Int.toNat_natCast]⟩
        obtain ⟨hle, hr⟩ := hraw
        rw [hr] at h ⊢
        simp only at h ⊢
        have hK16 : needN (lenOf c.toNat) ≤ 16 := by
          have := sizeN_le (sixOf c.toNat)
          simp [fitsB] at h1
          unfold needN
          omega
        generalize hK : needN (lenOf c.toNat) = K at *
        by_cases h4 : rightP ⟨sixOf c.toNat, padL (l.take K), (lenOf c.toNat : Nat)⟩
        · rw [if_pos h4]
          refine ⟨?_, h4, rfl⟩
          unfold bytesL
          simp only [Int.toNat_natCast]
          rw [hK]
          have hh : UInt8.ofNat (headN ⟨sixOf c.toNat, padL (l.take K), (lenOf c.toNat : Nat)⟩) = c := by
            have : headN ⟨sixOf c.toNat, padL (l.take K), (lenOf c.toNat : Nat)⟩ = c.toNat := by
              unfold headN sixOf lenOf
              simp only [Int.toNat_natCast, decide_eq_true_eq]
              split <;> omega
            rw [this]
            simp
          have ht : (padL (l.take K)).take K = l.take K := by
            unfold padL
            rw [List.take_take, Nat.min_eq_left hK16, List.take_append_of_le_length (by rw [List.length_take]; omega), List.take_take, Nat.min_self]
          rw [hh, ht, List.cons_append, List.take_append_drop]
        · rw [if_neg h4] at h
          simp at h
      · rw [if_neg h2] at h
        exact absurd h h2
    · rw [if_neg h1] at h
      simp at h

/-! ### How dumps write and read prefixes -/
def wholeP (b : List UInt8) : Option Px := if (takeF b 0).2.1 = 0 ∧ (takeF b 0).2.2.1 = [] then some (takeF b 0).1 else none
def pbP (p : Px) : List UInt8 := if rightP p ∧ L16 p then bytesL p else []
theorem whole_some {b : List UInt8} {p : Px} (h : wholeP b = some p) : rightP p ∧ L16 p ∧ b = bytesL p := by
  unfold wholeP at h
  split at h
  · rename_i hc
    simp only [Option.some.injEq] at h
    obtain ⟨h1, h2, _⟩ := take_fwd hc.1
    have h3 := takeF_len b 0
    rw [h] at h1 h2 h3
    rw [hc.2, List.append_nil] at h1
    exact ⟨h2, h3, h1⟩
  · simp at h
theorem whole_back {p : Px} (hr : rightP p) (hp : L16 p) : wholeP (bytesL p) = some p := by
  have := take_back p [] hp hr
  rw [List.append_nil] at this
  unfold wholeP
  rw [this]
  simp
theorem bytesL_len (p : Px) (hr : rightP p) (hp : L16 p) : (bytesL p).length ≤ 17 := by
  have hs := sizeN_le p.six
  have h1 := hr.2.1
  unfold bytesL needN
  simp
  omega
def codP : Dm.Cod Px where
  pb := pbP
  whole := wholeP
  lt := fun a b => decide (cmpP a b < 0)
  back := fun b p h => by
    obtain ⟨h1, h2, h3⟩ := whole_some h
    unfold pbP
    rw [if_pos ⟨h1, h2⟩, h3]
  short := fun p => by
    unfold pbP
    split
    · rename_i h
      exact bytesL_len p h.1 h.2
    · simp
theorem pb_right {p : Px} (hr : rightP p) (hp : L16 p) : codP.pb p = bytesL p := if_pos ⟨hr, hp⟩

/-! ### Routes and what dumps know of them -/
def rwOf (r : Rt) : Dm.Rw Px := ⟨r.to, r.metric.toNat, r.seq.toNat⟩
def rtOf (x : Dm.Rw Px) : Rt := if h : L16 x.p then ⟨x.p, x.m, x.q, h⟩ else zeroR
/-- A route that may be in a table, with a number of 32 bits. -/
def Rok (r : Rt) : Prop := rightR r ∧ 0 ≤ r.seq ∧ r.seq < 4294967296
theorem rt_rw {r : Rt} (h : Rok r) : rtOf (rwOf r) = r := by
  unfold rtOf rwOf
  simp only
  rw [dif_pos r.ok]
  obtain ⟨⟨_, h1, _⟩, h2, _⟩ := h
  apply Rt.ext'
  · rfl
  · show ((r.metric.toNat : Nat) : Int) = r.metric
    omega
  · show ((r.seq.toNat : Nat) : Int) = r.seq
    omega
theorem rw_ok {prev : Option Px} {x : Dm.Rw Px} (h : Dm.okR codP prev x) : rwOf (rtOf x) = x ∧ Rok (rtOf x) ∧ (rtOf x).to = x.p := by
  obtain ⟨h1, _, h3, h4⟩ := h
  obtain ⟨a, b, _⟩ := whole_some (b := codP.pb x.p) h1
  have e : rtOf x = ⟨x.p, x.m, x.q, b⟩ := dif_pos b
  rw [e]
  refine ⟨?_, ⟨⟨a, ?_, ?_⟩, ?_, ?_⟩, rfl⟩
  · simp [rwOf]
  · show (0 : Int) ≤ (x.m : Nat); omega
  · show ((x.m : Nat) : Int) < 65535; omega
  · show (0 : Int) ≤ (x.q : Nat); omega
  · show ((x.q : Nat) : Int) < 4294967296; omega
theorem ok_rw {prev : Option Px} {r : Rt} (h : Rok r) (hp : ∀ p, prev = some p → cmpP p r.to < 0) : Dm.okR codP prev (rwOf r) := by
  obtain ⟨⟨h0, h1, h1'⟩, h2, h3⟩ := h
  refine ⟨?_, fun p e => decide_eq_true (hp p e), ?_, ?_⟩
  · show wholeP (codP.pb r.to) = some r.to
    rw [pb_right h0 r.ok]
    exact whole_back h0 r.ok
  · show r.metric.toNat < 65535; omega
  · show r.seq.toNat < 4294967296; omega
/-- Routes in order are what a dump may have. -/
theorem okD_of : ∀ (l : List Rt) (prev : Option Px), Sorted l → (∀ r ∈ l, Rok r) → (∀ p, prev = some p → ∀ r ∈ l, cmpP p r.to < 0) → Dm.okD codP prev (l.map rwOf)
  | [], _, _, _, _ => trivial
  | r :: l, prev, hs, hr, hp => by
    refine ⟨ok_rw (hr r (by simp)) (fun p e => hp p e r (by simp)), ?_⟩
    refine okD_of l (some r.to) hs.tail (fun x hx => hr x (by simp [hx])) ?_
    intro p e x hx
    simp at e
    subst e
    exact (List.pairwise_cons.1 hs).1 x hx
theorem sorted_of_okD : ∀ (l : List (Dm.Rw Px)) (prev : Option Px), Dm.okD codP prev l → (∀ p, prev = some p → L16 p) → Sorted (l.map rtOf) ∧ (∀ r ∈ l.map rtOf, Rok r) ∧ (∀ p, prev = some p → ∀ r ∈ l.map rtOf, cmpP p r.to < 0) ∧ (l.map rtOf).map rwOf = l
  | [], _, _, _ => ⟨List.Pairwise.nil, by simp, by simp, rfl⟩
  | x :: l, prev, ⟨h1, h2⟩, hL => by
    obtain ⟨e1, e2, e3⟩ := rw_ok h1
    have hx16 : L16 x.p := by rw [← e3]; exact (rtOf x).ok
    obtain ⟨a, b, c, d⟩ := sorted_of_okD l (some x.p) h2 (fun p e => by simp at e; subst e; exact hx16)
    refine ⟨?_, ?_, ?_, ?_⟩
    · rw [List.map_cons]
      refine List.pairwise_cons.2 ⟨fun r hr => ?_, a⟩
      rw [e3]
      exact c x.p rfl r hr
    · intro r hr
      rw [List.map_cons] at hr
      rcases List.mem_cons.1 hr with rfl | hr
      · exact e2
      · exact b r hr
    · intro p hp r hr
      have hlt : cmpP p x.p < 0 := of_decide_eq_true (h1.2.1 p hp)
      rw [List.map_cons] at hr
      rcases List.mem_cons.1 hr with rfl | hr
      · rw [e3]; exact hlt
      · exact cmp_lt_trans (hL p hp) hx16 r.ok hlt (c x.p rfl r hr)
    · rw [List.map_cons, List.map_cons, e1, d]
end Go.Proofs.YtpimecnpdpcceaaGreat
