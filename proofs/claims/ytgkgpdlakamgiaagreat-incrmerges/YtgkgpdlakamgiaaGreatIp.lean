/- Proved: plain mathematics of rows of changes: their bytes, and how they are read: what is written is read as it was, and no other bytes are that. No condition but that numbers fit. -/
import Derived.Test.YtgkgpdlakamgiaaGreatMd
namespace Go.Proofs.YtgkgpdlakamgiaaGreat
open Go.RowKit

/-- May it be a change? -/
def rightI (i : Ic) : Prop := ((i.kind = 1 ∨ i.kind = 2) ∧ rightR i.route) ∨ (i.kind = 3 ∧ rightP i.route.to ∧ i.route = wd i.route)
instance (i : Ic) : Decidable (rightI i) := by unfold rightI; infer_instance
/-- A number of 32 bits. -/
def SqI (i : Ic) : Prop := 0 ≤ i.route.seq ∧ i.route.seq < 4294967296
theorem rightI.kind {i : Ic} (h : rightI i) : i.kind = 1 ∨ i.kind = 2 ∨ i.kind = 3 := by
  rcases h with ⟨h | h, _⟩ | ⟨h, _⟩
  · exact .inl h
  · exact .inr (.inl h)
  · exact .inr (.inr h)
theorem rightI.to {i : Ic} (h : rightI i) : rightP i.route.to := by
  rcases h with ⟨_, h⟩ | ⟨_, h, _⟩
  · exact h.1
  · exact h
theorem rightI.metric {i : Ic} (h : rightI i) : 0 ≤ i.route.metric ∧ i.route.metric < 65535 := by
  rcases h with ⟨_, h⟩ | ⟨_, _, h⟩
  · exact h.2
  · rw [h]; exact ⟨by show (0 : Int) ≤ 0; omega, by show (0 : Int) < 65535; omega⟩

/-- A change's bytes; a row's. -/
def chB (i : Ic) : List UInt8 := UInt8.ofNat i.kind.toNat :: (bytesL i.route.to ++ if i.kind = 3 then [] else V.enc i.route.metric.toNat ++ V.enc i.route.seq.toNat)
def rowsB (l : List Ic) : List UInt8 := l.flatMap chB
def rowB (l : List Ic) : List UInt8 := V.enc l.length ++ rowsB l

def mkR (p : Px) (m q : Int) : Rt := if h : L16 p then ⟨p, m, q, h⟩ else zeroR
theorem mkR_of {p : Px} (h : p.addr.length = 16) (m q : Int) : mkR p m q = ⟨p, m, q, h⟩ := dif_pos h
/-- The change that bytes go on with. -/
def chF (s : List UInt8) : Except Int (Ic × List UInt8) :=
  if (V.byteF s 0).2.2 ≠ 0 then .error (V.byteF s 0).2.2
  else if ¬ (1 ≤ (V.byteF s 0).1.toNat ∧ (V.byteF s 0).1.toNat ≤ 3) then .error 4
  else if (takeF (V.byteF s 0).2.1 0).2.1 ≠ 0 then .error (takeF (V.byteF s 0).2.1 0).2.1
  else if (V.byteF s 0).1.toNat = 3 then .ok (⟨3, mkR (takeF (V.byteF s 0).2.1 0).1 0 0⟩, (takeF (V.byteF s 0).2.1 0).2.2.1)
  else if (V.uintF (takeF (V.byteF s 0).2.1 0).2.2.1 0).2.2 ≠ 0 then .error (V.uintF (takeF (V.byteF s 0).2.1 0).2.2.1 0).2.2
  else if 65535 ≤ (V.uintF (takeF (V.byteF s 0).2.1 0).2.2.1 0).1 then .error 1
  else if (V.uintF (V.uintF (takeF (V.byteF s 0).2.1 0).2.2.1 0).2.1 0).2.2 ≠ 0 then .error (V.uintF (V.uintF (takeF (V.byteF s 0).2.1 0).2.2.1 0).2.1 0).2.2
  else if 4294967296 ≤ (V.uintF (V.uintF (takeF (V.byteF s 0).2.1 0).2.2.1 0).2.1 0).1 then .error 7
  else .ok (⟨((V.byteF s 0).1.toNat : Nat), mkR (takeF (V.byteF s 0).2.1 0).1 ((V.uintF (takeF (V.byteF s 0).2.1 0).2.2.1 0).1 : Nat) ((V.uintF (V.uintF (takeF (V.byteF s 0).2.1 0).2.2.1 0).2.1 0).1 : Nat)⟩, (V.uintF (V.uintF (takeF (V.byteF s 0).2.1 0).2.2.1 0).2.1 0).2.1)
def readN8 : Nat → List UInt8 → Except Int (List Ic × List UInt8)
  | 0, s => .ok ([], s)
  | n + 1, s => match chF s with
    | .error x => .error x
    | .ok (i, s') => match readN8 n s' with
      | .error x => .error x
      | .ok (l, s'') => .ok (i :: l, s'')
def readI (s : List UInt8) : Except Int (List Ic) :=
  if (V.uintF s 0).2.2 ≠ 0 then .error (V.uintF s 0).2.2
  else if 201 ≤ (V.uintF s 0).1 then .error 7
  else match readN8 (V.uintF s 0).1 (V.uintF s 0).2.1 with
    | .error x => .error x
    | .ok (l, s') => if s' = [] then .ok l else .error 4

theorem ch_back {i : Ic} (h : rightI i) (hq : SqI i) (more : List UInt8) : chF (chB i ++ more) = .ok (i, more) := by
  have hk : ∃ k : Nat, i.kind = k ∧ 1 ≤ k ∧ k ≤ 3 := ⟨i.kind.toNat, by rcases h.kind with e | e | e <;> rw [e] <;> simp, by rcases h.kind with e | e | e <;> rw [e] <;> simp, by rcases h.kind with e | e | e <;> rw [e] <;> simp⟩
  obtain ⟨k, hk, k1, k3⟩ := hk
  have hm := h.metric
  have hto := h.to
  obtain ⟨q0, q1⟩ := hq
  obtain ⟨m, hme⟩ : ∃ m : Nat, i.route.metric = m := ⟨i.route.metric.toNat, by omega⟩
  obtain ⟨q, hqe⟩ : ∃ q : Nat, i.route.seq = q := ⟨i.route.seq.toNat, by omega⟩
  have htn : (UInt8.ofNat k).toNat = k := V.toNat_ofNat k (by omega)
  have hb : V.byteF (chB i ++ more) 0 = (UInt8.ofNat k, (bytesL i.route.to ++ if i.kind = 3 then [] else V.enc m ++ V.enc q) ++ more, 0) := by
    unfold chB
    rw [hk, hme, hqe, Int.toNat_natCast, Int.toNat_natCast, Int.toNat_natCast]
    rfl
  have ht := take_back i.route.to ((if i.kind = 3 then [] else V.enc m ++ V.enc q) ++ more) i.route.ok hto
  rw [← List.append_assoc] at ht
  unfold chF
  simp only [hb, ht, htn, mkR_of i.route.ok]
  rw [if_neg (by simp), if_neg (by omega), if_neg (by simp)]
  by_cases h3 : k = 3
  · have hi3 : i.kind = 3 := by rw [hk, h3]; rfl
    rw [if_pos h3, if_pos hi3, List.nil_append]
    rcases h with ⟨h0 | h0, _⟩ | ⟨_, _, h0⟩
    · omega
    · omega
    · congr 2
      refine Ic.ext' hi3.symm ?_
      rw [h0]
      rfl
  · have hi3 : ¬ i.kind = 3 := by omega
    rw [if_neg h3, if_neg hi3]
    have hu1 : V.uintF (V.enc m ++ V.enc q ++ more) 0 = (m, V.enc q ++ more, 0) := by rw [List.append_assoc]; exact V.uintF_enc m _ (by omega)
    have hu2 : V.uintF (V.enc q ++ more) 0 = (q, more, 0) := V.uintF_enc q _ (by omega)
    simp only [hu1, hu2]
    rw [if_neg (by simp), if_neg (by omega), if_neg (by simp), if_neg (by omega)]
    congr 2
    exact Ic.ext' hk.symm (Rt.ext' rfl hme.symm hqe.symm)
theorem ch_fwd {s s' : List UInt8} {i : Ic} (h : chF s = .ok (i, s')) : s = chB i ++ s' ∧ rightI i ∧ SqI i := by
  unfold chF at h
  cases s with
  | nil => simp [V.byteF_nil] at h
  | cons c t =>
    simp only [V.byteF_cons, mkR_of (takeF_len t 0)] at h
    rw [if_neg (by simp)] at h
    by_cases hc : 1 ≤ c.toNat ∧ c.toNat ≤ 3
    · rw [if_neg (by simpa using hc)] at h
      by_cases ht : (takeF t 0).2.1 = 0
      · rw [if_neg (by simpa using ht)] at h
        obtain ⟨f1, f2, f3⟩ := take_fwd ht
        have hL := takeF_len t 0
        have hcc : UInt8.ofNat c.toNat = c := by simp
        by_cases h3 : c.toNat = 3
        · rw [if_pos h3] at h
          simp only [Except.ok.injEq, Prod.mk.injEq] at h
          obtain ⟨rfl, rfl⟩ := h
          refine ⟨?_, .inr ⟨rfl, f2, rfl⟩, ⟨by show (0 : Int) ≤ 0; omega, by show (0 : Int) < 4294967296; omega⟩⟩
          unfold chB
          simp only [if_true, List.append_nil, List.cons_append]
          rw [← f1]
          congr 1
          rw [← hcc, h3]
          rfl
        · rw [if_neg h3] at h
          generalize hu : V.uintF (takeF t 0).2.2.1 0 = u at h
          obtain ⟨m, s2, x2⟩ := u
          simp only at h
          by_cases hx2 : x2 = 0
          · subst hx2
            rw [if_neg (by simp)] at h
            by_cases hm : 65535 ≤ m
            · rw [if_pos hm] at h; simp at h
            · rw [if_neg hm] at h
              generalize hv : V.uintF s2 0 = v at h
              obtain ⟨q, s3, x3⟩ := v
              simp only at h
              by_cases hx3 : x3 = 0
              · subst hx3
                rw [if_neg (by simp)] at h
                by_cases hq : 4294967296 ≤ q
                · rw [if_pos hq] at h; simp at h
                · rw [if_neg hq] at h
                  simp only [Except.ok.injEq, Prod.mk.injEq] at h
                  obtain ⟨rfl, rfl⟩ := h
                  have e1 := Dm.uintF_back hu
                  have e2 := Dm.uintF_back hv
                  refine ⟨?_, .inl ⟨?_, f2, ?_, ?_⟩, ⟨?_, ?_⟩⟩
                  · unfold chB
                    simp only [Int.toNat_natCast, List.cons_append, List.append_assoc]
                    rw [if_neg (by omega), hcc]
                    congr 1
                    rw [List.append_assoc, ← e2, ← e1]
                    exact f1
                  · show ((c.toNat : Nat) : Int) = 1 ∨ ((c.toNat : Nat) : Int) = 2
                    omega
                  · show (0 : Int) ≤ (m : Nat)
                    omega
                  · show ((m : Nat) : Int) < 65535
                    omega
                  · show (0 : Int) ≤ (q : Nat)
                    omega
                  · show ((q : Nat) : Int) < 4294967296
                    omega
              · rw [if_pos hx3] at h; simp at h
          · rw [if_pos hx2] at h; simp at h
      · rw [if_pos ht] at h; simp at h
    · rw [if_pos hc] at h; simp at h
theorem readN_back : ∀ (l : List Ic) (more : List UInt8), (∀ i ∈ l, rightI i) → (∀ i ∈ l, SqI i) → readN8 l.length (rowsB l ++ more) = .ok (l, more)
  | [], _, _, _ => rfl
  | i :: l, more, h, hq => by
    have e : rowsB (i :: l) ++ more = chB i ++ (rowsB l ++ more) := by simp [rowsB]
    rw [e, List.length_cons, readN8, ch_back (h i (by simp)) (hq i (by simp))]
    simp only
    rw [readN_back l more (fun x hx => h x (by simp [hx])) (fun x hx => hq x (by simp [hx]))]
theorem readN_fwd : ∀ (n : Nat) (s s' : List UInt8) (l : List Ic), readN8 n s = .ok (l, s') → s = rowsB l ++ s' ∧ l.length = n ∧ (∀ i ∈ l, rightI i) ∧ ∀ i ∈ l, SqI i
  | 0, s, s', l, h => by
    simp only [readN8, Except.ok.injEq, Prod.mk.injEq] at h
    obtain ⟨rfl, rfl⟩ := h
    exact ⟨rfl, rfl, by simp, by simp⟩
  | n + 1, s, s', l, h => by
    rw [readN8] at h
    cases hc : chF s with
    | error x => rw [hc] at h; simp at h
    | ok y =>
      obtain ⟨i, s1⟩ := y
      rw [hc] at h
      simp only at h
      cases hr : readN8 n s1 with
      | error x => rw [hr] at h; simp at h
      | ok z =>
        obtain ⟨m, s2⟩ := z
        rw [hr] at h
        simp only [Except.ok.injEq, Prod.mk.injEq] at h
        obtain ⟨rfl, rfl⟩ := h
        obtain ⟨f1, f2, f3⟩ := ch_fwd hc
        obtain ⟨g1, g2, g3, g4⟩ := readN_fwd n s1 s2 m hr
        refine ⟨?_, by simp [g2], ?_, ?_⟩
        · rw [f1, g1]; simp [rowsB]
        · intro x hx
          rcases List.mem_cons.1 hx with rfl | hx
          · exact f2
          · exact g3 x hx
        · intro x hx
          rcases List.mem_cons.1 hx with rfl | hx
          · exact f3
          · exact g4 x hx
theorem row_back {l : List Ic} (h : ∀ i ∈ l, rightI i) (hq : ∀ i ∈ l, SqI i) (hl : l.length ≤ 200) : readI (rowB l) = .ok l := by
  have hu : V.uintF (rowB l) 0 = (l.length, rowsB l, 0) := V.uintF_enc l.length _ (by omega)
  have hr := readN_back l [] h hq
  rw [List.append_nil] at hr
  unfold readI
  simp only [hu, hr]
  rw [if_neg (by simp), if_neg (by omega)]
  simp
theorem row_fwd {s : List UInt8} {l : List Ic} (h : readI s = .ok l) : s = rowB l ∧ l.length ≤ 200 ∧ (∀ i ∈ l, rightI i) ∧ ∀ i ∈ l, SqI i := by
  unfold readI at h
  generalize hu : V.uintF s 0 = u at h
  obtain ⟨n, s1, x1⟩ := u
  simp only at h
  by_cases hx : x1 = 0
  · subst hx
    rw [if_neg (by simp)] at h
    by_cases hn : 201 ≤ n
    · rw [if_pos hn] at h; simp at h
    · rw [if_neg hn] at h
      cases hr : readN8 n s1 with
      | error x => rw [hr] at h; simp at h
      | ok z =>
        obtain ⟨m, s2⟩ := z
        rw [hr] at h
        simp only at h
        by_cases he : s2 = []
        · rw [if_pos he] at h
          simp only [Except.ok.injEq] at h
          subst h
          obtain ⟨g1, g2, g3, g4⟩ := readN_fwd n s1 s2 m hr
          refine ⟨?_, by omega, g3, g4⟩
          rw [Dm.uintF_back hu, g1, he, List.append_nil]
          unfold rowB
          rw [g2]
        · rw [if_neg he] at h; simp at h
  · rw [if_pos hx] at h; simp at h
theorem chB_len {i : Ic} (h : rightI i) (hq : SqI i) : (chB i).length ≤ 40 := by
  have h1 := bytesL_len i.route.to h.to i.route.ok
  have h2 := V.enc_len10 i.route.metric.toNat (by have := h.metric; omega)
  have h3 := V.enc_len10 i.route.seq.toNat (by have := hq.1; have := hq.2; omega)
  unfold chB
  split <;> simp <;> omega
theorem rowsB_len : ∀ (l : List Ic), (∀ i ∈ l, rightI i) → (∀ i ∈ l, SqI i) → (rowsB l).length ≤ 40 * l.length
  | [], _, _ => by simp [rowsB]
  | i :: l, h, hq => by
    have h1 := chB_len (h i (by simp)) (hq i (by simp))
    have h2 := rowsB_len l (fun x hx => h x (by simp [hx])) (fun x hx => hq x (by simp [hx]))
    have e : rowsB (i :: l) = chB i ++ rowsB l := by simp [rowsB]
    rw [e, List.length_append, List.length_cons]
    omega
theorem rowB_len {l : List Ic} (h : ∀ i ∈ l, rightI i) (hq : ∀ i ∈ l, SqI i) (hl : l.length ≤ 200) : (rowB l).length ≤ 8010 := by
  have h1 := rowsB_len l h hq
  have h2 := V.enc_len10 l.length (by omega)
  unfold rowB
  rw [List.length_append]
  omega
theorem rowsB_snoc (l : List Ic) (i : Ic) : rowsB (l ++ [i]) = rowsB l ++ chB i := by simp [rowsB]
end Go.Proofs.YtgkgpdlakamgiaaGreat
