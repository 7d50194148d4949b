/- Proved: plain mathematics of a frame's bytes, with no program in it: numbers laid as bytes, the highest first; a frame's bytes, and the frame of bytes; what is hurt, cut off, or has more behind it is none. Conditions where they stand. -/
import Derived.Test.YtcdcnlaijbjonaaKp
namespace Go.Proofs.Ytcdcnlaijbjonaa

/-- A number's byte, 0 the lowest one. -/
def byteAt (n i : Nat) : UInt8 := UInt8.ofNat (n / 256 ^ i % 256)
/-- So many bytes of it, the highest first. -/
def be : Nat → Nat → List UInt8
  | 0, _ => []
  | k + 1, n => byteAt n k :: be k n
theorem be_len (n : Nat) : ∀ k, (be k n).length = k
  | 0 => rfl
  | k + 1 => by rw [be, List.length_cons, be_len n k]
theorem byteAt_nat (n i : Nat) : (byteAt n i).toNat = n / 256 ^ i % 256 := K.toNat_byte _ (Nat.mod_lt _ (by omega))
/-- The number that bytes make behind another one. -/
def vbF : Nat → List UInt8 → Nat
  | a, [] => a
  | a, c :: l => vbF (256 * a + c.toNat) l
theorem vbF_split : ∀ (l : List UInt8) (a : Nat), vbF a l = a * 256 ^ l.length + vbF 0 l ∧ vbF 0 l < 256 ^ l.length
  | [], a => by simp [vbF]
  | c :: l, a => by
    have hc := c.toNat_lt
    have h1 := vbF_split l (256 * a + c.toNat)
    have h2 := vbF_split l (256 * 0 + c.toNat)
    rw [vbF, vbF, h1.1, h2.1, List.length_cons, Nat.pow_succ]
    have h3 := h2.2
    generalize vbF 0 l = v at *
    generalize 256 ^ l.length = P at *
    have h4 : c.toNat * P ≤ 255 * P := Nat.mul_le_mul_right P (by omega)
    refine ⟨?_, ?_⟩
    · rw [Nat.add_mul, Nat.mul_zero, Nat.zero_add, Nat.mul_comm P 256, ← Nat.mul_assoc, Nat.mul_comm a 256]
      omega
    · rw [Nat.mul_zero, Nat.zero_add]
      omega
theorem vbF_be (n : Nat) : ∀ k a, vbF a (be k n) = a * 256 ^ k + n % 256 ^ k
  | 0, a => by simp [be, vbF, Nat.mod_one]
  | k + 1, a => by
    rw [be, vbF, vbF_be n k, byteAt_nat, Nat.pow_succ, Nat.mod_mul, Nat.add_mul, Nat.mul_comm (n / 256 ^ k % 256), ← Nat.mul_assoc, Nat.mul_comm a (256 ^ k), Nat.mul_comm (256 ^ k * a) 256, Nat.mul_comm (256 ^ k) a, Nat.mul_assoc]
    omega
theorem be_vbF : ∀ (l : List UInt8) (a : Nat), be l.length (vbF a l) = l
  | [], _ => rfl
  | c :: l, a => by
    have hc := c.toNat_lt
    have h1 := vbF_split l (256 * a + c.toNat)
    have h2 := be_vbF l (256 * a + c.toNat)
    rw [List.length_cons, be, vbF, h2]
    congr 1
    unfold byteAt
    rw [h1.1, Nat.mul_comm, Nat.mul_add_div (Nat.pow_pos (by omega)), Nat.div_eq_of_lt h1.2, Nat.add_zero, show (256 * a + c.toNat) % 256 = c.toNat by omega]
    simp

/-- A frame. -/
structure Fr where
  kind : Int
  ses : Int
  ep : Int
  idx : Int
  tot : Int
  data : List UInt8
theorem Fr.ext' {a b : Fr} (h1 : a.kind = b.kind) (h2 : a.ses = b.ses) (h3 : a.ep = b.ep) (h4 : a.idx = b.idx) (h5 : a.tot = b.tot) (h6 : a.data = b.data) : a = b := by
  cases a; cases b; simp at *; exact ⟨h1, h2, h3, h4, h5, h6⟩
theorem Fr.iff (a b : Fr) : a = b ↔ a.kind = b.kind ∧ a.ses = b.ses ∧ a.ep = b.ep ∧ a.idx = b.idx ∧ a.tot = b.tot ∧ a.data = b.data :=
  ⟨fun h => by rw [h]; exact ⟨rfl, rfl, rfl, rfl, rfl, rfl⟩, fun h => Fr.ext' h.1 h.2.1 h.2.2.1 h.2.2.2.1 h.2.2.2.2.1 h.2.2.2.2.2⟩
instance : DecidableEq Fr := fun a b => decidable_of_iff _ (Fr.iff a b).symm
def zeroF : Fr := ⟨0, 0, 0, 0, 0, []⟩
/-- It may be. -/
def rightF (f : Fr) : Prop := (f.kind = 1 ∨ f.kind = 2) ∧ (0 ≤ f.ses ∧ f.ses < 4294967296) ∧ (0 ≤ f.ep ∧ f.ep < 4294967296) ∧ (0 ≤ f.idx ∧ f.idx < 65536) ∧ (0 ≤ f.tot ∧ f.tot < 65536) ∧ f.data.length ≤ 65000
instance (f : Fr) : Decidable (rightF f) := inferInstanceAs (Decidable (_ ∧ _))
def headF (f : Fr) : List UInt8 := be 1 f.kind.toNat ++ (be 4 f.ses.toNat ++ (be 4 f.ep.toNat ++ (be 2 f.idx.toNat ++ (be 2 f.tot.toNat ++ be 2 f.data.length))))
theorem headF_len (f : Fr) : (headF f).length = 15 := rfl
/-- Its bytes. -/
def bytesF (f : Fr) : List UInt8 := K.sealB (headF f ++ f.data)
theorem bytesF_len (f : Fr) : (bytesF f).length = 19 + f.data.length := by
  unfold bytesF
  rw [K.sealB_len, List.length_append, headF_len]
  omega
/-- The number that stands in bytes. -/
def numb (l : List UInt8) (i k : Nat) : Nat := vbF 0 ((l.drop i).take k)
theorem numb_lt (l : List UInt8) (i k : Nat) (h : i + k ≤ l.length) : numb l i k < 256 ^ k := by
  have := (vbF_split ((l.drop i).take k) 0).2
  rwa [List.length_take, List.length_drop, Nat.min_eq_left (by omega)] at this
theorem be_numb (l : List UInt8) (i k : Nat) (h : i + k ≤ l.length) : be k (numb l i k) = (l.drop i).take k := by
  have := be_vbF ((l.drop i).take k) 0
  rwa [List.length_take, List.length_drop, Nat.min_eq_left (by omega)] at this
theorem numb_take (l : List UInt8) (i k n : Nat) (h : i + k ≤ n) : numb (l.take n) i k = numb l i k := by
  unfold numb
  rw [List.drop_take, List.take_take, Nat.min_eq_left (by omega)]
theorem numb_app (l m : List UInt8) (i k : Nat) (h : i + k ≤ l.length) : numb (l ++ m) i k = numb l i k := by
  unfold numb
  rw [List.drop_append_of_le_length (by omega), List.take_append_of_le_length (by rw [List.length_drop]; omega)]
/-- The frame of bytes, with that Data. -/
def frameF (l d : List UInt8) : Fr := ⟨(numb l 0 1 : Nat), (numb l 1 4 : Nat), (numb l 5 4 : Nat), (numb l 9 2 : Nat), (numb l 11 2 : Nat), d⟩
theorem frameF_take (l d : List UInt8) (n : Nat) (h : 13 ≤ n) : frameF (l.take n) d = frameF l d := by
  unfold frameF
  rw [numb_take _ _ _ _ (by omega), numb_take _ _ _ _ (by omega), numb_take _ _ _ _ (by omega), numb_take _ _ _ _ (by omega), numb_take _ _ _ _ (by omega)]
/-- What Read answers. -/
def readF (l : List UInt8) : Fr × Int :=
  if l.length < 19 then (zeroF, 3) else if l.length ≠ 19 + numb l 13 2 then (zeroF, 4)
  else if (K.openB l).2 ≠ 0 then (zeroF, 5) else if rightF (frameF l ((l.take (l.length - 4)).drop 15)) then (frameF l ((l.take (l.length - 4)).drop 15), 0) else (zeroF, 1)

theorem open_err (l : List UInt8) (h : ¬ l.length < 4) : (K.openB l = (l.take (l.length - 4), 0)) ∨ K.openB l = ([], 5) := by
  unfold K.openB
  rw [if_neg h]
  split
  · exact .inl rfl
  · exact .inr rfl
theorem numb_head (f : Fr) (r : List UInt8) : numb (headF f ++ r) 0 1 = f.kind.toNat % 256 ∧ numb (headF f ++ r) 1 4 = f.ses.toNat % 4294967296 ∧ numb (headF f ++ r) 5 4 = f.ep.toNat % 4294967296 ∧
    numb (headF f ++ r) 9 2 = f.idx.toNat % 65536 ∧ numb (headF f ++ r) 11 2 = f.tot.toNat % 65536 ∧ numb (headF f ++ r) 13 2 = f.data.length % 65536 := by
  have h : ∀ (n k P : Nat), 256 ^ k = P → vbF 0 (be k n) = n % P := fun n k P hP => by rw [vbF_be, Nat.zero_mul, Nat.zero_add, hP]
  exact ⟨h _ 1 256 rfl, h _ 4 4294967296 rfl, h _ 4 4294967296 rfl, h _ 2 65536 rfl, h _ 2 65536 rfl, h _ 2 65536 rfl⟩
theorem bytesF_head (f : Fr) : bytesF f = headF f ++ (f.data ++ K.le4 (K.sum (headF f ++ f.data))) := by
  unfold bytesF K.sealB
  rw [List.append_assoc]
theorem bytesF_told (f : Fr) (h : f.data.length ≤ 65000) : numb (bytesF f) 13 2 = f.data.length := by
  rw [bytesF_head, (numb_head f _).2.2.2.2.2, Nat.mod_eq_of_lt (by omega)]
theorem frame_bytes (f : Fr) (h : rightF f) : frameF (bytesF f) f.data = f := by
  obtain ⟨h1, h2, h3, h4, h5, h6⟩ := h
  obtain ⟨e1, e2, e3, e4, e5, _⟩ := numb_head f (f.data ++ K.le4 (K.sum (headF f ++ f.data)))
  unfold frameF
  rw [bytesF_head, e1, e2, e3, e4, e5]
  refine Fr.ext' ?_ ?_ ?_ ?_ ?_ rfl
  · show ((f.kind.toNat % 256 : Nat) : Int) = f.kind; omega
  · show ((f.ses.toNat % 4294967296 : Nat) : Int) = f.ses; omega
  · show ((f.ep.toNat % 4294967296 : Nat) : Int) = f.ep; omega
  · show ((f.idx.toNat % 65536 : Nat) : Int) = f.idx; omega
  · show ((f.tot.toNat % 65536 : Nat) : Int) = f.tot; omega
/-- What is written is read as it was. -/
theorem read_bytes (f : Fr) (h : rightF f) : readF (bytesF f) = (f, 0) := by
  have hd : ((bytesF f).take ((bytesF f).length - 4)).drop 15 = f.data := by
    have e : (bytesF f).take ((bytesF f).length - 4) = headF f ++ f.data := by
      unfold bytesF
      rw [K.sealB_len, Nat.add_sub_cancel]
      unfold K.sealB
      rw [List.take_left]
    rw [e, List.drop_left' (headF_len f)]
  have ho : K.openB (bytesF f) = (headF f ++ f.data, 0) := K.open_seal _
  unfold readF
  rw [hd, frame_bytes f h, bytesF_told f h.2.2.2.2.2, bytesF_len, if_neg (by omega), if_neg (by simp), ho, if_neg (by simp), if_pos h]
/-- What is read is written as it was. -/
theorem read_ok (l : List UInt8) (h : (readF l).2 = 0) : rightF (readF l).1 ∧ bytesF (readF l).1 = l ∧ 19 ≤ l.length := by
  by_cases h1 : l.length < 19
  · unfold readF at h; rw [if_pos h1] at h; cases h
  · by_cases h2 : l.length ≠ 19 + numb l 13 2
    · unfold readF at h; rw [if_neg h1, if_pos h2] at h; cases h
    · by_cases h3 : (K.openB l).2 ≠ 0
      · unfold readF at h; rw [if_neg h1, if_neg h2, if_pos h3] at h; cases h
      · by_cases h4 : rightF (frameF l ((l.take (l.length - 4)).drop 15))
        · have e : readF l = (frameF l ((l.take (l.length - 4)).drop 15), 0) := by unfold readF; rw [if_neg h1, if_neg h2, if_neg h3, if_pos h4]
          rw [e]
          refine ⟨h4, ?_, by omega⟩
          have ho : K.openB l = (l.take (l.length - 4), 0) := by
            rcases open_err l (by omega) with h5 | h5
            · exact h5
            · rw [h5] at h3; simp at h3
          have hs := K.open_ok l (by rw [ho])
          rw [ho] at hs
          have hdl : ((l.take (l.length - 4)).drop 15).length = numb l 13 2 := by
            rw [List.length_drop, List.length_take]
            omega
          have hh : headF (frameF l ((l.take (l.length - 4)).drop 15)) = (l.take (l.length - 4)).take 15 := by
            unfold headF frameF
            simp only [Int.toNat_natCast, hdl]
            rw [be_numb _ _ _ (by omega), be_numb _ _ _ (by omega), be_numb _ _ _ (by omega), be_numb _ _ _ (by omega), be_numb _ _ _ (by omega), be_numb _ _ _ (by omega)]
            rw [List.take_take, Nat.min_eq_left (by omega), show 15 = 13 + 2 from rfl, List.take_add, show 13 = 11 + 2 from rfl, List.take_add, show 11 = 9 + 2 from rfl, List.take_add, show 9 = 5 + 4 from rfl, List.take_add, show 5 = 1 + 4 from rfl, List.take_add]
            simp only [List.append_assoc, List.drop_zero]
          unfold bytesF
          rw [hh]
          rw [show (frameF l ((l.take (l.length - 4)).drop 15)).data = (l.take (l.length - 4)).drop 15 from rfl, List.take_append_drop]
          exact hs
        · unfold readF at h; rw [if_neg h1, if_neg h2, if_neg h3, if_neg h4] at h; cases h
/-- Which errors there are. -/
theorem read_cases (l : List UInt8) : (readF l).2 = 0 ∨ (readF l = (zeroF, 1) ∨ readF l = (zeroF, 3) ∨ readF l = (zeroF, 4) ∨ readF l = (zeroF, 5)) := by
  unfold readF
  split
  · exact .inr (.inr (.inl rfl))
  · split
    · exact .inr (.inr (.inr (.inl rfl)))
    · split
      · exact .inr (.inr (.inr (.inr rfl)))
      · split
        · exact .inl rfl
        · exact .inr (.inl rfl)
theorem read_short (l : List UInt8) (h : l.length < 19) : readF l = (zeroF, 3) := by unfold readF; rw [if_pos h]
theorem read_form (l : List UInt8) (h : ¬ l.length < 19) (h2 : l.length ≠ 19 + numb l 13 2) : readF l = (zeroF, 4) := by unfold readF; rw [if_neg h, if_pos h2]
theorem read_sum (l : List UInt8) (h : ¬ l.length < 19) (h2 : (K.openB l).2 ≠ 0) : (readF l).2 = 4 ∨ (readF l).2 = 5 := by
  unfold readF
  rw [if_neg h, if_pos h2]
  split
  · exact .inl rfl
  · exact .inr rfl
/-- Hurt: up to 32 bits in a row are turned. -/
theorem read_burst (f : Fr) (a B i : Nat) (hB : B < 2 ^ 32) (hb : B.testBit i = true) (hi : a + i < 8 * (bytesF f).length) : (readF (K.xorN (bytesF f) (2 ^ a * B))).2 = 4 ∨ (readF (K.xorN (bytesF f) (2 ^ a * B))).2 = 5 := by
  have hl := bytesF_len f
  refine read_sum _ (by rw [K.xorN_len]; omega) ?_
  have := K.open_burst (headF f ++ f.data) a B i hB hb hi
  rw [show K.sealB (headF f ++ f.data) = bytesF f from rfl] at this
  rw [this]
  decide
/-- Cut off. -/
theorem read_cut (f : Fr) (h : f.data.length ≤ 65000) (n : Nat) (hn : n < (bytesF f).length) : readF ((bytesF f).take n) = (zeroF, 3) ∨ readF ((bytesF f).take n) = (zeroF, 4) := by
  have hl := bytesF_len f
  have ht : ((bytesF f).take n).length = n := by rw [List.length_take]; omega
  by_cases h1 : n < 19
  · exact .inl (read_short _ (by omega))
  · refine .inr (read_form _ (by omega) ?_)
    rw [numb_take _ _ _ _ (by omega), bytesF_told f h]
    omega
/-- With more behind it. -/
theorem read_more (f : Fr) (h : f.data.length ≤ 65000) (m : List UInt8) (hm : m ≠ []) : readF (bytesF f ++ m) = (zeroF, 4) := by
  have hl := bytesF_len f
  have h0 : 0 < m.length := List.length_pos_iff.2 hm
  refine read_form _ (by rw [List.length_append]; omega) ?_
  rw [numb_app _ _ _ _ (by omega), bytesF_told f h, List.length_append]
  omega
/-- Unlike frames have unlike bytes. -/
theorem bytesF_inj {f g : Fr} (hf : rightF f) (hg : rightF g) (h : bytesF f = bytesF g) : f = g := by
  have h1 := read_bytes f hf
  rw [h, read_bytes g hg] at h1
  simpa using h1.symm
end Go.Proofs.Ytcdcnlaijbjonaa
