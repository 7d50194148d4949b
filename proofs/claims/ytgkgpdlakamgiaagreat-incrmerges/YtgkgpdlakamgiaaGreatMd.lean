/- Proved: several texts in one: what the document's SameIncs answers of two lists of changes; plain mathematics of dumps: what is written is read as it was, no other bytes are that, what is cut off or goes on is none, one more is longer; plain mathematics of prefixes' bytes: what is written is read as it was, and what is read is what is written; how dumps write and read them; plain mathematics of changes: done one by one they make the one table of the other. Each with its conditions where it stands. -/
import Derived.Test.YtgkgpdlakamgiaaGreatMt
import Derived.Test.YtgkgpdlakamgiaaGreatMv
import Derived.Test.YtgkgpdlakamgiaaGreatMx

/- Proved: what the document's SameIncs answers of two lists of changes. Condition: lists are short enough for memory. -/
namespace Go.Proofs.YtgkgpdlakamgiaaGreat
open Go.RowKit

theorem Ic.ext' {a b : Ic} (h1 : a.kind = b.kind) (h2 : a.route = b.route) : a = b := by
  cases a; cases b; simp at *; exact ⟨h1, h2⟩
instance : DecidableEq Ic := fun a b => decidable_of_iff (a.kind = b.kind ∧ a.route = b.route) ⟨fun h => Ic.ext' h.1 h.2, fun h => by rw [h]; exact ⟨rfl, rfl⟩⟩
theorem ic_kind (i : Ic) : (ic i)[0]? = some (.int .i64 i.kind) := rfl
theorem ic_ext (i : Ic) : (ic i).extract 1 21 = rc i.route := by
  apply Array.ext'
  simp only [Array.toList_extract, ic, il, rc]
  rw [List.extract_eq_take_drop]
  simp only [List.drop_succ_cons, List.drop_zero]
  rw [List.take_of_length_le (by rw [rl_len]; exact Nat.le_refl _)]
theorem eq_ic (d : Nat) (a b : Ic) (w : World) : (Op.equalIn (d + 6) 59 (.agg (ic a)) (.agg (ic b))).run Tryz.prog w = .ok (decide (a = b)) w := by
  have a0 := ic_kind a
  have a1 := ic_ext a
  have b0 := ic_kind b
  have b1 := ic_ext b
  have he := eq_rc d a.route b.route
  rw [run_equalIn_struct (P := Tryz.prog) w (d + 5) 59 _ _ (by kernel_rfl) (by kernel_rfl)]
  have e : decide (a = b) = (decide (a.kind = b.kind) && decide (a.route = b.route)) := by
    rw [Bool.eq_iff_iff]
    simp only [Bool.and_eq_true, decide_eq_true_eq]
    constructor
    · intro h; rw [h]; simp
    · intro h; exact Ic.ext' h.1 h.2
  rw [e]
  generalize ic a = A at *
  generalize ic b = B at *
  generalize rc a.route = A2 at *
  generalize rc b.route = B2 at *
  have hf : (Tryz.prog.fieldsOf 59).toList = [{ name := "Kind", type := 3, offset := 0, embedded := false, tag := "", pkgPath := "", byteOffset := 0 }, { name := "Route", type := 57, offset := 1, embedded := false, tag := "", pkgPath := "", byteOffset := 8 }] := by kernel_rfl
  rw [hf]
  simp only [Op.eqFields]
  go_simp
  by_cases h1 : a.kind = b.kind <;> by_cases h2 : a.route = b.route <;> simp [h1, h2]
theorem Cells.ic {w : World} {g o cap n : Nat} {l : List Ic} (h : Cells il w (.slice (some ⟨g, o, none⟩) l.length cap) l) (hn : n = 21) (j : Nat) (x : Ic) (hx : l[j]? = some x) : (loadCellsFrom ⟨g, o + j * n, none⟩ 0 n #[]).run Tryz.prog w = .ok (ic x) w := by
  have := h.load (P := Tryz.prog) (n := n) il_len j x hx 0 21 (il x) (by rw [List.drop_zero, List.take_of_length_le (by rw [il_len]; exact Nat.le_refl _)]) (by omega) hn
  rw [Nat.add_zero, ← hn] at this
  exact this
def SiRel (W : World) (l m : List Ic) (i : Value) (wr : World) : Prop := ∃ k : Nat, i = .int .i64 k ∧ k ≤ l.length ∧ l.take k = m.take k ∧ Keep W wr

set_option maxRecDepth 100000 in
set_option maxHeartbeats 1000000 in
theorem qsameIncs (u v : Value) (l m : List Ic) (w : World) (hu : Cells il w u l) (hv : Cells il w v m) (hl : l.length ≤ 1000000) (_hm : m.length ≤ 1000000) : Calls Tryz.prog 11 #[u, v] w fun e w' => e = .returned (.bool (decide (l = m))) ∧ Keep w w' := by
  obtain ⟨a1, c1, rfl, _, _⟩ := hu.form
  obtain ⟨a2, c2, rfl, _, _⟩ := hv.form
  obtain ⟨n, hn⟩ : ∃ n, n = 21 := ⟨21, rfl⟩
  have hsz : ∀ w, (Go.sizeOf 59).run Tryz.prog w = .ok n w := fun w => by rw [hn]; exact Tryz.sizeOf59 w
  have hn0 : ¬ n = 0 := by omega
  have HN := Lib.hid hn
  clear hn
  by_cases hlen : l.length = m.length
  · have hne : ((l.length : Int) != (m.length : Int)) = false := by simp [hlen]
    have HU := Lib.hid hu
    have HV := Lib.hid hv
    have HLE := Lib.hid hlen
    clear hu hv
    obtain ⟨N, hN⟩ : ∃ N, l.length = N := ⟨_, rfl⟩
    obtain ⟨M, hM⟩ : ∃ M, m.length = M := ⟨_, rfl⟩
    have HLN := Lib.hid hN
    have HMN := Lib.hid hM
    rw [hN] at hne hl hlen
    rw [hM] at hne _hm hlen
    rw [hN, hM]
    obtain ⟨D, hD⟩ : ∃ D, decide (l = m) = D := ⟨_, rfl⟩
    rw [hD]
    have HD := Lib.hid hD
    clear hN hM hD
    go_enter Tryz.func11, Tryz.ntmps11
    go_wp2
    go_loopw [5] (fun i wr => SiRel w l m i wr) (fun i _ => N - (intOf i).toNat)
    case atStart => exact ⟨0, rfl, Nat.zero_le _, rfl, Keep.refl _⟩
    case round =>
      obtain ⟨k, rfl, hk1, hk2, hk⟩ := hrel
      rw [HLN.out] at hk1
      by_cases hlt : k < N
      · have hltm : k < M := by omega
        obtain ⟨g1, o1, cap1, e1, _, _, _⟩ := HU.out.ptr k (by rw [HLN.out]; exact hlt)
        obtain ⟨g2, o2, cap2, e2, _, _, _⟩ := HV.out.ptr k (by rw [HMN.out]; exact hltm)
        simp at e1 e2
        obtain ⟨rfl, rfl⟩ := e1
        obtain ⟨rfl, rfl⟩ := e2
        obtain ⟨x, hx⟩ : ∃ x, l[k]? = some x := ⟨_, List.getElem?_eq_getElem (by rw [HLN.out]; exact hlt)⟩
        obtain ⟨y, hy⟩ : ∃ y, m[k]? = some y := ⟨_, List.getElem?_eq_getElem (by rw [HMN.out]; exact hltm)⟩
        have d1 : ∀ u : KW wr, (loadCellsFrom ⟨g1, o1 + k * n, none⟩ 0 n #[]).run Tryz.prog u.1 = .ok (ic x) u.1 := fun u => Cells.ic (HU.out.keep (hk.trans u.2)) HN.out k x hx
        have d2 : ∀ u : KW wr, (loadCellsFrom ⟨g2, o2 + k * n, none⟩ 0 n #[]).run Tryz.prog u.1 = .ok (ic y) u.1 := fun u => Cells.ic (HV.out.keep (hk.trans u.2)) HN.out k y hy
        have heq : ∀ w, (Op.equalIn 10000 59 (.agg (ic x)) (.agg (ic y))).run Tryz.prog w = .ok (decide (x = y)) w := fun w => eq_ic 9994 x y w
        have HX := Lib.hid hx
        have HY := Lib.hid hy
        have HK := Lib.hid hk
        have HTK := Lib.hid hk2
        clear hx hy hk hk2
        by_cases hxy : x = y
        · simp only [decide_eq_true hxy] at heq
          have HXY := Lib.hid hxy
          clear hxy
          generalize ic x = X at *
          generalize ic y = Y at *
          go_wp2_with fail
          refine wp_region_keep (Keep.refl _) (by kernel_rfl) (by kernel_rfl) ?_
          repeat (first | go_big_quiet_step (fail) | quiet_step (fail))
          refine wpQuiet_nil ?_
          rintro w6 ⟨⟨w7, b7⟩, rfl⟩
          have HK7 := Lib.hid (HK.out.trans b7)
          clear HK b7 d1 d2 heq
          go_wp2
          go_roundw
          case rel => exact ⟨k + 1, by go_num, by rw [HLN.out]; omega, by rw [List.take_add_one, List.take_add_one, HTK.out, HX.out, HY.out, HXY.out], HK7.out⟩
          case measure => simp [intOf]; omega
        · simp only [decide_eq_false hxy] at heq
          have HXY := Lib.hid hxy
          clear hxy
          generalize ic x = X at *
          generalize ic y = Y at *
          go_wp2_with fail
          refine wp_region_keep (Keep.refl _) (by kernel_rfl) (by kernel_rfl) ?_
          repeat (first | go_big_quiet_step (fail) | quiet_step (fail))
          refine wpQuiet_nil ?_
          rintro w6 ⟨⟨w7, b7⟩, rfl⟩
          have HK7 := Lib.hid (HK.out.trans b7)
          clear HK b7 d1 d2 heq
          go_wp2
          go_ret
          refine ⟨?_, HK7.out⟩
          rw [← HD.out, decide_eq_false (fun e => HXY.out (by have h1 := HX.out; rw [e, HY.out] at h1; simpa using h1.symm))]
          rfl
      · have hlm : l = m := by
          rw [List.take_of_length_le (by rw [HLN.out]; omega), List.take_of_length_le (by rw [HMN.out]; omega)] at hk2
          exact hk2
        have hDt : D = true := by rw [← HD.out]; exact decide_eq_true hlm
        have HDT := Lib.hid hDt
        have HK := Lib.hid hk
        clear hlm hk2 hDt hk
        go_wp2
        go_ret
        refine ⟨?_, HK.out⟩
        rw [HDT.out]
        rfl
  · have hne : ((l.length : Int) != (m.length : Int)) = true := by simp; omega
    obtain ⟨N, hN⟩ : ∃ N, l.length = N := ⟨_, rfl⟩
    obtain ⟨M, hM⟩ : ∃ M, m.length = M := ⟨_, rfl⟩
    rw [decide_eq_false (fun e => hlen (by rw [e]))]
    rw [hN, hM] at hne ⊢
    clear hu hv hlen hN hM hl _hm
    go_enter Tryz.func11, Tryz.ntmps11
    go_wp2
    go_ret
    exact ⟨rfl, Keep.refl _⟩
end Go.Proofs.YtgkgpdlakamgiaaGreat

/- Proved: plain mathematics of dumps: what is written is read as it was, no other bytes are that, what is cut off or goes on is none, one more is longer. Condition: bytes of prefixes are read as they were, and no others are (Cod). -/
namespace Go.Proofs.YtgkgpdlakamgiaaGreat.Dm
open Go.Proofs.YtgkgpdlakamgiaaGreat.V

/-! ### Numbers and texts, the other way round -/
theorem uintL_back (f : Nat) : ∀ (k m : Nat) (l : List UInt8) (v : Nat) (r : List UInt8), f + k = 10 → 0 < f → uintL f k m l 0 = (v, r, 0) → ∃ n, l = enc n ++ r ∧ v = m + n * 2 ^ (7 * k) ∧ (0 < k → 0 < n) := by
  induction f with
  | zero => intro k m l v r _ h0; omega
  | succ f ih =>
    intro k m l v r hk _ h
    cases l with
    | nil => rw [uintL_nil] at h; simp at h
    | cons c t =>
      rw [uintL_cons] at h
      split at h
      · simp at h
      · rename_i hno
        split at h
        · rename_i hc
          simp only [Prod.mk.injEq, and_true] at h
          refine ⟨c.toNat, ?_, ?_, fun h0 => ?_⟩
          · rw [enc_lt _ hc, ← h.2]
            simp
          · rw [← h.1, Nat.mod_eq_of_lt hc]
          · rcases Nat.eq_zero_or_pos c.toNat with h1 | h1
            · exact absurd (.inl ⟨h0, h1⟩) hno
            · exact h1
        · rename_i hc
          have hk9 : k ≠ 9 := fun e => hno (.inr ⟨e, by omega⟩)
          obtain ⟨n, h1, h2, h3⟩ := ih (k + 1) _ t v r (by omega) (by omega) h
          have hn := h3 (by omega)
          have hlt : c.toNat < 256 := c.toNat_lt
          refine ⟨c.toNat % 128 + 128 * n, ?_, ?_, fun _ => by omega⟩
          · rw [enc_ge _ (by omega), show (c.toNat % 128 + 128 * n) % 128 = c.toNat % 128 by omega, show (c.toNat % 128 + 128 * n) / 128 = n by omega, show c.toNat % 128 + 128 = c.toNat by omega, h1]
            simp
          · rw [h2, show 7 * (k + 1) = 7 * k + 7 by omega, Nat.pow_add, Nat.add_mul]
            rw [show 128 * n * 2 ^ (7 * k) = n * (2 ^ (7 * k) * 2 ^ 7) by rw [Nat.mul_comm 128 n, Nat.mul_assoc, Nat.mul_comm 128]]
            omega
theorem uintF_back {l : List UInt8} {v : Nat} {r : List UInt8} (h : uintF l 0 = (v, r, 0)) : l = enc v ++ r := by
  obtain ⟨n, h1, h2, _⟩ := uintL_back 10 0 0 l v r rfl (by omega) h
  simp at h2
  rw [h2]
  exact h1
/-- A text's bytes. -/
def tx (t : List UInt8) : List UInt8 := enc t.length ++ t
theorem rawF_ok (t r : List UInt8) : rawF (t ++ r) 0 t.length = (t, r, 0) := by
  unfold rawF
  rw [if_neg (by simp), if_neg (by omega), if_neg (by simp; omega)]
  simp
theorem textF_ok {t : List UInt8} (r : List UInt8) {most : Int} (h : (t.length : Int) ≤ most) (h2 : t.length < 2 ^ 64) : textF (tx t ++ r) 0 most = (t, r, 0) := by
  unfold textF tx
  rw [List.append_assoc, uintF_enc _ _ h2]
  simp only [ne_eq, not_true, if_false]
  rw [if_neg (by omega)]
  exact rawF_ok t r
theorem textF_back {l t r : List UInt8} {most : Int} (h : textF l 0 most = (t, r, 0)) : l = tx t ++ r ∧ (t.length : Int) ≤ most := by
  unfold textF at h
  obtain ⟨v, l1, x1⟩ : Nat × List UInt8 × Int := uintF l 0
  generalize hu : uintF l 0 = u at h
  obtain ⟨v, l1, x1⟩ := u
  simp only at h
  split at h
  · rename_i h0
    simp only [Prod.mk.injEq] at h
    exact absurd h.2.2 h0
  · rename_i h0
    have hx : x1 = 0 := Decidable.not_not.1 h0
    subst hx
    split at h
    · simp at h
    · rename_i hm
      have hl := uintF_back hu
      unfold rawF at h
      rw [if_neg (by simp), if_neg (by omega)] at h
      split at h
      · simp at h
      · rename_i hlen
        simp only [Int.toNat_natCast, Prod.mk.injEq, and_true] at h
        obtain ⟨h1, h2⟩ := h
        have ht : t.length = v := by rw [← h1, List.length_take]; omega
        refine ⟨?_, by omega⟩
        unfold tx
        rw [hl, ht, List.append_assoc, ← h1, ← h2, List.take_append_drop]

/-! ### What is in common -/
def com : List UInt8 → List UInt8 → Nat
  | a :: l, b :: m => if a = b then com l m + 1 else 0
  | _, _ => 0
theorem com_le : ∀ l m : List UInt8, com l m ≤ l.length ∧ com l m ≤ m.length
  | [], m => by cases m <;> simp [com]
  | a :: l, [] => by simp [com]
  | a :: l, b :: m => by
    have := com_le l m
    unfold com
    split <;> simp <;> omega
theorem com_take : ∀ l m : List UInt8, l.take (com l m) = m.take (com l m)
  | [], m => by cases m <;> simp [com]
  | a :: l, [] => by simp [com]
  | a :: l, b :: m => by
    have := com_take l m
    unfold com
    split
    · rename_i e
      simp [this, e]
    · simp
theorem com_nil (m : List UInt8) : com [] m = 0 := by cases m <;> rfl
/-- Of three. -/
theorem com_three : ∀ a r b : List UInt8, min (com a r) (com r b) ≤ com a b
  | [], r, b => by simp [com_nil]
  | _ :: _, [], b => by simp [com]
  | _ :: _, _ :: _, [] => by simp [com]
  | x :: a, y :: r, z :: b => by
    have := com_three a r b
    unfold com
    by_cases h1 : x = y
    · by_cases h2 : y = z
      · simp only [h1, h2, if_true]
        omega
      · simp [h2]
    · simp [h1]

/-! ### Dumps -/
variable {α : Type}
/-- How prefixes are written, read, and which come behind which. -/
structure Cod (α : Type) where
  pb : α → List UInt8
  whole : List UInt8 → Option α
  lt : α → α → Bool
  back : ∀ b p, whole b = some p → pb p = b
  short : ∀ p, (pb p).length ≤ 17
structure Rw (α : Type) where
  p : α
  m : Nat
  q : Nat
variable (C : Cod α)
def putR (last : List UInt8) (r : Rw α) : List UInt8 := enc (com last (C.pb r.p)) ++ (tx ((C.pb r.p).drop (com last (C.pb r.p))) ++ (enc r.m ++ enc r.q))
def goD : List UInt8 → List (Rw α) → List UInt8
  | _, [] => []
  | last, r :: l => putR C last r ++ goD (C.pb r.p) l
def dumpL (l : List (Rw α)) : List UInt8 := enc l.length ++ goD C [] l
/-- May one stand behind another one, or first? -/
def okR (prev : Option α) (r : Rw α) : Prop := C.whole (C.pb r.p) = some r.p ∧ (∀ p, prev = some p → C.lt p r.p = true) ∧ r.m < 65535 ∧ r.q < 4294967296
def okD : Option α → List (Rw α) → Prop
  | _, [] => True
  | prev, r :: l => okR C prev r ∧ okD (some r.p) l
def behind (prev : Option α) (p : α) : Bool := match prev with
  | none => true
  | some o => C.lt o p
def readOne (prev : Option α) (last s : List UInt8) : Except Int (Rw α × List UInt8 × List UInt8) :=
  let (k, s1, x1) := uintF s 0
  if x1 ≠ 0 then .error x1 else if last.length < k then .error 4 else
  let (t, s2, x2) := textF s1 0 17
  if x2 ≠ 0 then .error x2 else
  match C.whole (last.take k ++ t) with
  | none => .error 4
  | some p =>
    if com last (last.take k ++ t) ≠ k then .error 4 else if behind C prev p = false then .error 6 else
    let (m, s3, x3) := uintF s2 0
    if x3 ≠ 0 then .error x3 else if 65535 ≤ m then .error 1 else
    let (q, s4, x4) := uintF s3 0
    if x4 ≠ 0 then .error x4 else if 4294967296 ≤ q then .error 7 else .ok (⟨p, m, q⟩, last.take k ++ t, s4)
def readN : Nat → Option α → List UInt8 → List UInt8 → Except Int (List (Rw α) × List UInt8)
  | 0, _, _, s => .ok ([], s)
  | n + 1, prev, last, s => match readOne C prev last s with
    | .error x => .error x
    | .ok (r, b, s') => match readN n (some r.p) b s' with
      | .error x => .error x
      | .ok (l, s'') => .ok (r :: l, s'')
def readD (s : List UInt8) : Except Int (List (Rw α)) :=
  let (n, s1, x1) := uintF s 0
  if x1 ≠ 0 then .error x1 else if 300 < n then .error 7 else
  match readN C n none [] s1 with
  | .error x => .error x
  | .ok (l, s2) => if s2 = [] then .ok l else .error 4
variable {C}
theorem behind_iff {prev : Option α} {p : α} : behind C prev p = true ↔ ∀ o, prev = some o → C.lt o p = true := by
  cases prev with
  | none => simp [behind]
  | some o => simp [behind]
theorem one_ok {prev : Option α} {r : Rw α} (h : okR C prev r) (last s : List UInt8) : readOne C prev last (putR C last r ++ s) = .ok (r, C.pb r.p, s) := by
  obtain ⟨h1, h2, h3, h4⟩ := h
  obtain ⟨c1, c2⟩ := com_le last (C.pb r.p)
  have hs := C.short r.p
  have hb : last.take (com last (C.pb r.p)) ++ (C.pb r.p).drop (com last (C.pb r.p)) = C.pb r.p := by rw [com_take, List.take_append_drop]
  have hbe : behind C prev r.p = true := behind_iff.2 h2
  unfold readOne putR
  rw [List.append_assoc, uintF_enc _ _ (by omega)]
  simp only [ne_eq, not_true, if_false]
  rw [if_neg (by omega), List.append_assoc, textF_ok _ (by rw [List.length_drop]; omega) (by rw [List.length_drop]; omega)]
  simp only [not_true, if_false, hb, h1, hbe]
  rw [if_neg (by simp), List.append_assoc, uintF_enc _ _ (by omega)]
  simp only [not_true, if_false]
  rw [if_neg (by omega), uintF_enc _ _ (by omega)]
  simp only [not_true, if_false]
  rw [if_neg (by omega)]
theorem one_back {prev : Option α} {last s b s' : List UInt8} {r : Rw α} (h : readOne C prev last s = .ok (r, b, s')) : s = putR C last r ++ s' ∧ b = C.pb r.p ∧ okR C prev r := by
  unfold readOne at h
  generalize hu : uintF s 0 = u at h
  obtain ⟨k, s1, x1⟩ := u
  simp only at h
  split at h
  · cases h
  rename_i e1
  split at h
  · cases h
  rename_i hk
  generalize ht : textF s1 0 17 = u at h
  obtain ⟨t, s2, x2⟩ := u
  simp only at h
  split at h
  · cases h
  rename_i e2
  split at h
  · cases h
  rename_i p hw
  split at h
  · cases h
  rename_i hc
  split at h
  · cases h
  rename_i hbe
  generalize hm : uintF s2 0 = u at h
  obtain ⟨m, s3, x3⟩ := u
  simp only at h
  split at h
  · cases h
  rename_i e3
  split at h
  · cases h
  rename_i hm2
  generalize hq : uintF s3 0 = u at h
  obtain ⟨q, s4, x4⟩ := u
  simp only at h
  split at h
  · cases h
  rename_i e4
  split at h
  · cases h
  rename_i hq2
  have hx1 : x1 = 0 := Decidable.not_not.1 e1
  have hx2 : x2 = 0 := Decidable.not_not.1 e2
  have hx3 : x3 = 0 := Decidable.not_not.1 e3
  have hx4 : x4 = 0 := Decidable.not_not.1 e4
  subst hx1
  subst hx2
  subst hx3
  subst hx4
  simp only [Except.ok.injEq, Prod.mk.injEq] at h
  obtain ⟨rfl, rfl, rfl⟩ := h
  have hpb := C.back _ _ hw
  have hcom : com last (C.pb p) = k := by rw [hpb]; exact Decidable.not_not.1 hc
  refine ⟨?_, hpb.symm, ?_, ?_, by dsimp only; omega, by dsimp only; omega⟩
  · unfold putR
    simp only [hcom]
    have hd : (C.pb p).drop k = t := by
      rw [hpb, List.drop_append_of_le_length (by rw [List.length_take]; omega), List.drop_of_length_le (by rw [List.length_take]; omega), List.nil_append]
    rw [hd, uintF_back hu, (textF_back ht).1, uintF_back hm, uintF_back hq]
    simp [List.append_assoc]
  · rw [hpb]
    exact hw
  · exact behind_iff.1 (by simpa using hbe)
theorem n_ok : ∀ (l : List (Rw α)) (prev : Option α) (last s : List UInt8), okD C prev l → readN C l.length prev last (goD C last l ++ s) = .ok (l, s)
  | [], prev, last, s, _ => by simp [readN, goD]
  | r :: l, prev, last, s, h => by
    rw [List.length_cons, readN, goD, List.append_assoc, one_ok h.1]
    simp only [n_ok l (some r.p) (C.pb r.p) s h.2]
theorem n_back : ∀ (n : Nat) (prev : Option α) (last s : List UInt8) (l : List (Rw α)) (s' : List UInt8), readN C n prev last s = .ok (l, s') → l.length = n ∧ s = goD C last l ++ s' ∧ okD C prev l
  | 0, prev, last, s, l, s', h => by
    simp only [readN, Except.ok.injEq, Prod.mk.injEq] at h
    obtain ⟨rfl, rfl⟩ := h
    exact ⟨rfl, rfl, trivial⟩
  | n + 1, prev, last, s, l, s', h => by
    rw [readN] at h
    split at h
    · cases h
    rename_i r b s1 h1
    split at h
    · cases h
    rename_i l1 s2 h2
    simp only [Except.ok.injEq, Prod.mk.injEq] at h
    obtain ⟨rfl, rfl⟩ := h
    obtain ⟨k1, k2, k3⟩ := one_back h1
    obtain ⟨j1, j2, j3⟩ := n_back n _ _ _ _ _ h2
    refine ⟨by simp [j1], ?_, k3, j3⟩
    rw [goD, k1, j2, k2, List.append_assoc]
/-- What is dumped is read as it was; with more behind it, it is none. -/
theorem d_more {l : List (Rw α)} (h : okD C none l) (hl : l.length ≤ 300) (s : List UInt8) : readD C (dumpL C l ++ s) = if s = [] then .ok l else .error 4 := by
  unfold readD dumpL
  rw [List.append_assoc, uintF_enc _ _ (by omega)]
  simp only [ne_eq, not_true, if_false]
  rw [if_neg (by omega), n_ok l none [] s h]
theorem d_ok {l : List (Rw α)} (h : okD C none l) (hl : l.length ≤ 300) : readD C (dumpL C l) = .ok l := by
  have := d_more h hl []
  rwa [List.append_nil, if_pos rfl] at this
/-- No other bytes are that. -/
theorem d_back {s : List UInt8} {l : List (Rw α)} (h : readD C s = .ok l) : s = dumpL C l ∧ okD C none l ∧ l.length ≤ 300 := by
  unfold readD at h
  generalize hu : uintF s 0 = u at h
  obtain ⟨n, s1, x1⟩ := u
  simp only at h
  split at h
  · cases h
  rename_i e1
  split at h
  · cases h
  rename_i hn
  split at h
  · cases h
  rename_i l1 s2 h1
  split at h
  · rename_i hs
    simp only [Except.ok.injEq] at h
    subst h
    have hx1 : x1 = 0 := Decidable.not_not.1 e1
    subst hx1
    obtain ⟨k1, k2, k3⟩ := n_back _ _ _ _ _ _ h1
    refine ⟨?_, k3, by omega⟩
    unfold dumpL
    rw [uintF_back hu, k2, k1, hs, List.append_nil]
  · cases h
/-- What is cut off is none. -/
theorem d_cut {l : List (Rw α)} (h : okD C none l) (hl : l.length ≤ 300) (j : Nat) (hj : j < (dumpL C l).length) : ∀ l', readD C ((dumpL C l).take j) ≠ .ok l' := by
  intro l' h'
  obtain ⟨h1, h2, h3⟩ := d_back h'
  have h4 := d_more h2 h3 ((dumpL C l).drop j)
  rw [← h1, List.take_append_drop, d_ok h hl, if_neg] at h4
  · cases h4
  · intro e
    have := congrArg List.length e
    rw [List.length_drop] at this
    simp at this
    omega
theorem d_inj {l m : List (Rw α)} (h1 : okD C none l) (k1 : l.length ≤ 300) (h2 : okD C none m) (k2 : m.length ≤ 300) (h : dumpL C l = dumpL C m) : l = m := by
  have e := d_ok h1 k1
  rw [h, d_ok h2 k2] at e
  injection e with e
  exact e.symm
/-! ### One more is longer -/
theorem enc_mono : ∀ (a b : Nat), a ≤ b → (enc a).length ≤ (enc b).length := by
  intro a
  induction a using Nat.strongRecOn with
  | ind a ih =>
    intro b h
    by_cases ha : a < 128
    · rw [enc_lt _ ha]
      exact enc_pos b
    · rw [enc_ge _ ha, enc_ge b (by omega), List.length_cons, List.length_cons]
      have := ih (a / 128) (by omega) (b / 128) (by omega)
      omega
theorem put_len (last : List UInt8) (r : Rw α) : (putR C last r).length = 1 + (1 + ((C.pb r.p).length - com last (C.pb r.p))) + ((enc r.m).length + (enc r.q).length) := by
  have hs := C.short r.p
  obtain ⟨_, c2⟩ := com_le last (C.pb r.p)
  unfold putR tx
  simp only [List.length_append, List.length_drop]
  rw [enc_lt (com last (C.pb r.p)) (by omega), enc_lt ((C.pb r.p).length - com last (C.pb r.p)) (by omega)]
  simp
  omega
theorem go_more (r : Rw α) : ∀ (A B : List (Rw α)) (last : List UInt8), (goD C last (A ++ B)).length < (goD C last (A ++ r :: B)).length
  | [], [], last => by
    have := put_len (C := C) last r
    simp only [List.nil_append, goD, List.append_nil, List.length_nil]
    omega
  | [], b :: B, last => by
    have h1 := put_len (C := C) last r
    have h2 := put_len (C := C) (C.pb r.p) b
    have h3 := put_len (C := C) last b
    have h4 := com_three last (C.pb r.p) (C.pb b.p)
    obtain ⟨c1, c2⟩ := com_le last (C.pb r.p)
    obtain ⟨c3, c4⟩ := com_le (C.pb r.p) (C.pb b.p)
    obtain ⟨c5, c6⟩ := com_le last (C.pb b.p)
    simp only [List.nil_append, goD, List.length_append]
    omega
  | a :: A, B, last => by
    have := go_more r A B (C.pb a.p)
    simp only [List.cons_append, goD, List.length_append]
    omega
theorem d_more_len (r : Rw α) (A B : List (Rw α)) : (dumpL C (A ++ B)).length < (dumpL C (A ++ r :: B)).length := by
  have h1 := go_more (C := C) r A B []
  have h2 := enc_mono (A ++ B).length (A ++ r :: B).length (by simp)
  have e1 : (dumpL C (A ++ B)).length = (enc (A ++ B).length).length + (goD C [] (A ++ B)).length := List.length_append
  have e2 : (dumpL C (A ++ r :: B)).length = (enc (A ++ r :: B).length).length + (goD C [] (A ++ r :: B)).length := List.length_append
  omega
/-- How long a dump is at most. -/
theorem go_len : ∀ (l : List (Rw α)) (last : List UInt8), (∀ r ∈ l, r.m < 65535 ∧ r.q < 4294967296) → (goD C last l).length ≤ (l.map fun r => 1 + 1 + (C.pb r.p).length + 3 + 5).sum
  | [], last, _ => by simp [goD]
  | r :: l, last, h => by
    have h1 := put_len (C := C) last r
    have h2 := go_len l (C.pb r.p) (fun x hx => h x (by simp [hx]))
    obtain ⟨hm, hq⟩ := h r (by simp)
    have h3 := enc_len 2 r.m (by omega)
    have h4 := enc_len 4 r.q (by omega)
    rw [goD, List.length_append, List.map_cons, List.sum_cons]
    omega
end Go.Proofs.YtgkgpdlakamgiaaGreat.Dm

/- Proved: plain mathematics of prefixes' bytes: what is written is read as it was, and what is read is what is written; how dumps write and read them. No condition but lengths. -/
namespace Go.Proofs.YtgkgpdlakamgiaaGreat
open Go.RowKit

theorem byte_zero (l : List UInt8) (a i : Nat) (_hl : l.length = 16) (h : tailZ l a) (hi : i < 16) (ha : a ≤ 8 * i) : l.getD i 0 = 0 := by
  apply byte_ext
  intro j hj
  have := h (8 * i + j) (by omega) (by omega)
  unfold bitOf at this
  rw [show (8 * i + j) / 8 = i by omega, show (8 * i + j) % 8 = j by omega] at this
  rw [this]
  simp
theorem get_ext (l m : List UInt8) (hl : l.length = 16) (hm : m.length = 16) (h : ∀ i, i < 16 → l.getD i 0 = m.getD i 0) : l = m := by
  apply List.ext_getElem (by omega)
  intro i h1 h2
  have := h i (by omega)
  simpa [h1, h2] using this
theorem pad_back (p : Px) (hp : p.addr.length = 16) (hr : rightP p) : padL (p.addr.take (needN p.len.toNat)) = p.addr := by
  refine get_ext _ _ (padL_len _) hp fun i hi => ?_
  rw [padL_get _ i hi, take_get]
  by_cases h : i < needN p.len.toNat
  · rw [if_pos h]
  · rw [if_neg h, byte_zero p.addr p.len.toNat i hp hr.2.2 hi (by unfold needN at h; omega)]
theorem head_back (p : Px) (hr : rightP p) : sixOf (headN p) = p.six ∧ lenOf (headN p) = p.len.toNat := by
  have h1 := hr.2.1
  unfold sixOf lenOf headN
  cases hs : p.six
  · rw [hs] at h1
    simp only [sizeN, Bool.false_eq_true, if_false] at h1 ⊢
    constructor
    · simp; omega
    · rw [if_neg (by omega)]; omega
  · rw [hs] at h1
    simp only [sizeN, if_true] at h1 ⊢
    constructor
    · simp
    · rw [if_pos (by omega)]; omega
theorem take_back (p : Px) (more : List UInt8) (hp : p.addr.length = 16) (hr : rightP p) : takeF (bytesL p ++ more) 0 = (p, 0, more, 0) := by
  have hh := head_lt p hr
  obtain ⟨h1, h2⟩ := head_back p hr
  have hb : V.byteF (bytesL p ++ more) 0 = (UInt8.ofNat (headN p), p.addr.take (needN p.len.toNat) ++ more, 0) := by
    unfold V.byteF bytesL
    rw [if_neg (by simp)]
    rfl
  have hs := sizeN_le p.six
  have g1 := hr.1
  have g2 := hr.2.1
  have hn : needN p.len.toNat ≤ 16 := by unfold needN; omega
  have hlen : (p.addr.take (needN p.len.toNat)).length = needN p.len.toNat := by simp; omega
  have hraw : V.rawF (p.addr.take (needN p.len.toNat) ++ more) 0 (needN p.len.toNat : Nat) = (p.addr.take (needN p.len.toNat), more, 0) := by
    unfold V.rawF
    rw [if_neg (by simp), if_neg (by omega), if_neg (by rw [List.length_append, hlen]; omega), Int.toNat_natCast, List.take_left' hlen, List.drop_left' hlen]
  unfold takeF
  rw [hb]
  simp only
  rw [UInt8.toNat_ofNat_of_lt' (by simpa [UInt8.size] using hh)]
  unfold tailF
  rw [h1, h2, hraw]
  simp only
  have hl : ((p.len.toNat : Nat) : Int) = p.len := by omega
  rw [hl, pad_back p hp hr, if_pos (by simp [fitsB]; omega), if_pos trivial, if_pos hr]

/-- What is read is what would be written. -/
theorem take_fwd {b : List UInt8} (h : (takeF b 0).2.1 = 0) : b = bytesL (takeF b 0).1 ++ (takeF b 0).2.2.1 ∧ rightP (takeF b 0).1 ∧ (takeF b 0).2.2.2 = 0 := by
  cases b with
  | nil =>
    exfalso
    unfold takeF at h
    rw [V.byteF_nil] at h
    revert h
    decide
  | cons c l =>
    unfold takeF at h ⊢
    rw [V.byteF_cons] at h ⊢
    simp only at h ⊢
    unfold tailF at h ⊢
    by_cases h1 : fitsB (sixOf c.toNat) (lenOf c.toNat : Nat) = true
    · rw [if_pos h1] at h ⊢
      by_cases h2 : (V.rawF l 0 (needN (lenOf c.toNat) : Nat)).2.2 = 0
      · rw [if_pos h2] at h ⊢
        have hraw : needN (lenOf c.toNat) ≤ l.length ∧ V.rawF l 0 (needN (lenOf c.toNat) : Nat) = (l.take (needN (lenOf c.toNat)), l.drop (needN (lenOf c.toNat)), 0) := by
          unfold V.rawF at h2 ⊢
          rw [if_neg (by simp), if_neg (by omega)] at h2 ⊢
          by_cases h3 : (l.length : Int) < (needN (lenOf c.toNat) : Nat)
          · rw [if_pos h3] at h2
            simp at h2
          · rw [if_neg h3]
            exact ⟨by omega, by rw [Int.toNat_natCast]⟩
        obtain ⟨hle, hr⟩ := hraw
        rw [hr] at h ⊢
        simp only at h ⊢
        have hK16 : needN (lenOf c.toNat) ≤ 16 := by
          have := sizeN_le (sixOf c.toNat)
          simp [fitsB] at h1
          unfold needN
          omega
        generalize hK : needN (lenOf c.toNat) = K at *
        by_cases h4 : rightP ⟨sixOf c.toNat, padL (l.take K), (lenOf c.toNat : Nat)⟩
        · rw [if_pos h4]
          refine ⟨?_, h4, rfl⟩
          unfold bytesL
          simp only [Int.toNat_natCast]
          rw [hK]
          have hh : UInt8.ofNat (headN ⟨sixOf c.toNat, padL (l.take K), (lenOf c.toNat : Nat)⟩) = c := by
            have : headN ⟨sixOf c.toNat, padL (l.take K), (lenOf c.toNat : Nat)⟩ = c.toNat := by
              unfold headN sixOf lenOf
              simp only [Int.toNat_natCast, decide_eq_true_eq]
              split <;> omega
            rw [this]
            simp
          have ht : (padL (l.take K)).take K = l.take K := by
            unfold padL
            rw [List.take_take, Nat.min_eq_left hK16, List.take_append_of_le_length (by rw [List.length_take]; omega), List.take_take, Nat.min_self]
          rw [hh, ht, List.cons_append, List.take_append_drop]
        · rw [if_neg h4] at h
          simp at h
      · rw [if_neg h2] at h
        exact absurd h h2
    · rw [if_neg h1] at h
      simp at h

/-! ### How dumps write and read prefixes -/
def wholeP (b : List UInt8) : Option Px := if (takeF b 0).2.1 = 0 ∧ (takeF b 0).2.2.1 = [] then some (takeF b 0).1 else none
def pbP (p : Px) : List UInt8 := if rightP p ∧ L16 p then bytesL p else []
theorem whole_some {b : List UInt8} {p : Px} (h : wholeP b = some p) : rightP p ∧ L16 p ∧ b = bytesL p := by
  unfold wholeP at h
  split at h
  · rename_i hc
    simp only [Option.some.injEq] at h
    obtain ⟨h1, h2, _⟩ := take_fwd hc.1
    have h3 := takeF_len b 0
    rw [h] at h1 h2 h3
    rw [hc.2, List.append_nil] at h1
    exact ⟨h2, h3, h1⟩
  · simp at h
theorem whole_back {p : Px} (hr : rightP p) (hp : L16 p) : wholeP (bytesL p) = some p := by
  have := take_back p [] hp hr
  rw [List.append_nil] at this
  unfold wholeP
  rw [this]
  simp
theorem bytesL_len (p : Px) (hr : rightP p) (hp : L16 p) : (bytesL p).length ≤ 17 := by
  have hs := sizeN_le p.six
  have h1 := hr.2.1
  unfold bytesL needN
  simp
  omega
def codP : Dm.Cod Px where
  pb := pbP
  whole := wholeP
  lt := fun a b => decide (cmpP a b < 0)
  back := fun b p h => by
    obtain ⟨h1, h2, h3⟩ := whole_some h
    unfold pbP
    rw [if_pos ⟨h1, h2⟩, h3]
  short := fun p => by
    unfold pbP
    split
    · rename_i h
      exact bytesL_len p h.1 h.2
    · simp
theorem pb_right {p : Px} (hr : rightP p) (hp : L16 p) : codP.pb p = bytesL p := if_pos ⟨hr, hp⟩

/-! ### Routes and what dumps know of them -/
def rwOf (r : Rt) : Dm.Rw Px := ⟨r.to, r.metric.toNat, r.seq.toNat⟩
def rtOf (x : Dm.Rw Px) : Rt := if h : L16 x.p then ⟨x.p, x.m, x.q, h⟩ else zeroR
/-- A route that may be in a table, with a number of 32 bits. -/
def Rok (r : Rt) : Prop := rightR r ∧ 0 ≤ r.seq ∧ r.seq < 4294967296
theorem rt_rw {r : Rt} (h : Rok r) : rtOf (rwOf r) = r := by
  unfold rtOf rwOf
  simp only
  rw [dif_pos r.ok]
  obtain ⟨⟨_, h1, _⟩, h2, _⟩ := h
  apply Rt.ext'
  · rfl
  · show ((r.metric.toNat : Nat) : Int) = r.metric
    omega
  · show ((r.seq.toNat : Nat) : Int) = r.seq
    omega
theorem rw_ok {prev : Option Px} {x : Dm.Rw Px} (h : Dm.okR codP prev x) : rwOf (rtOf x) = x ∧ Rok (rtOf x) ∧ (rtOf x).to = x.p := by
  obtain ⟨h1, _, h3, h4⟩ := h
  obtain ⟨a, b, _⟩ := whole_some (b := codP.pb x.p) h1
  have e : rtOf x = ⟨x.p, x.m, x.q, b⟩ := dif_pos b
  rw [e]
  refine ⟨?_, ⟨⟨a, ?_, ?_⟩, ?_, ?_⟩, rfl⟩
  · simp [rwOf]
  · show (0 : Int) ≤ (x.m : Nat); omega
  · show ((x.m : Nat) : Int) < 65535; omega
  · show (0 : Int) ≤ (x.q : Nat); omega
  · show ((x.q : Nat) : Int) < 4294967296; omega
theorem ok_rw {prev : Option Px} {r : Rt} (h : Rok r) (hp : ∀ p, prev = some p → cmpP p r.to < 0) : Dm.okR codP prev (rwOf r) := by
  obtain ⟨⟨h0, h1, h1'⟩, h2, h3⟩ := h
  refine ⟨?_, fun p e => decide_eq_true (hp p e), ?_, ?_⟩
  · show wholeP (codP.pb r.to) = some r.to
    rw [pb_right h0 r.ok]
    exact whole_back h0 r.ok
  · show r.metric.toNat < 65535; omega
  · show r.seq.toNat < 4294967296; omega
/-- Routes in order are what a dump may have. -/
theorem okD_of : ∀ (l : List Rt) (prev : Option Px), Sorted l → (∀ r ∈ l, Rok r) → (∀ p, prev = some p → ∀ r ∈ l, cmpP p r.to < 0) → Dm.okD codP prev (l.map rwOf)
  | [], _, _, _, _ => trivial
  | r :: l, prev, hs, hr, hp => by
    refine ⟨ok_rw (hr r (by simp)) (fun p e => hp p e r (by simp)), ?_⟩
    refine okD_of l (some r.to) hs.tail (fun x hx => hr x (by simp [hx])) ?_
    intro p e x hx
    simp at e
    subst e
    exact (List.pairwise_cons.1 hs).1 x hx
theorem sorted_of_okD : ∀ (l : List (Dm.Rw Px)) (prev : Option Px), Dm.okD codP prev l → (∀ p, prev = some p → L16 p) → Sorted (l.map rtOf) ∧ (∀ r ∈ l.map rtOf, Rok r) ∧ (∀ p, prev = some p → ∀ r ∈ l.map rtOf, cmpP p r.to < 0) ∧ (l.map rtOf).map rwOf = l
  | [], _, _, _ => ⟨List.Pairwise.nil, by simp, by simp, rfl⟩
  | x :: l, prev, ⟨h1, h2⟩, hL => by
    obtain ⟨e1, e2, e3⟩ := rw_ok h1
    have hx16 : L16 x.p := by rw [← e3]; exact (rtOf x).ok
    obtain ⟨a, b, c, d⟩ := sorted_of_okD l (some x.p) h2 (fun p e => by simp at e; subst e; exact hx16)
    refine ⟨?_, ?_, ?_, ?_⟩
    · rw [List.map_cons]
      refine List.pairwise_cons.2 ⟨fun r hr => ?_, a⟩
      rw [e3]
      exact c x.p rfl r hr
    · intro r hr
      rw [List.map_cons] at hr
      rcases List.mem_cons.1 hr with rfl | hr
      · exact e2
      · exact b r hr
    · intro p hp r hr
      have hlt : cmpP p x.p < 0 := of_decide_eq_true (h1.2.1 p hp)
      rw [List.map_cons] at hr
      rcases List.mem_cons.1 hr with rfl | hr
      · rw [e3]; exact hlt
      · exact cmp_lt_trans (hL p hp) hx16 r.ok hlt (c x.p rfl r hr)
    · rw [List.map_cons, List.map_cons, e1, d]
end Go.Proofs.YtgkgpdlakamgiaaGreat

/- Proved: plain mathematics of changes: done one by one they make the one table of the other. No condition. -/
namespace Go.Proofs.YtgkgpdlakamgiaaGreat
open Go.RowKit

theorem has_iff {l : List Rt} {p : Px} : hasP l p = true ↔ ∃ x ∈ l, x.to = p := by simp [hasP]
theorem has_app (A B : List Rt) (p : Px) : hasP (A ++ B) p = (hasP A p || hasP B p) := by simp [hasP]
theorem has_cons (x : Rt) (B : List Rt) (p : Px) : hasP (x :: B) p = (decide (x.to = p) || hasP B p) := by simp [hasP]
theorem has_none {l : List Rt} {p : Px} (h : ∀ x ∈ l, x.to ≠ p) : hasP l p = false := by
  cases hh : hasP l p
  · rfl
  · obtain ⟨x, hm, hx⟩ := has_iff.1 hh
    exact absurd hx (h x hm)
theorem cmp_self (r : Rt) : cmpP r.to r.to = 0 := (cmp_zero r.ok r.ok).2 rfl
theorem ne_lt {a b : Rt} (h : cmpP a.to b.to < 0) : a.to ≠ b.to := fun e => by
  rw [(cmp_zero a.ok b.ok).2 e] at h
  omega
theorem ne_gt {a b : Rt} (h : 0 < cmpP a.to b.to) : a.to ≠ b.to := fun e => by
  rw [(cmp_zero a.ok b.ok).2 e] at h
  omega
theorem gt_of {a b : Rt} (h : cmpP a.to b.to < 0) : 0 < cmpP b.to a.to := by
  rw [cmp_neg b.ok a.ok]
  omega
theorem rank_split {A B : List Rt} {p : Px} (hA : ∀ x ∈ A, cmpP x.to p < 0) (hB : ∀ x ∈ B, 0 ≤ cmpP x.to p) : rank (A ++ B) p = A.length := by
  induction A with
  | nil =>
    cases B with
    | nil => rfl
    | cons b B =>
      have := hB b (by simp)
      rw [List.nil_append, rank_cons, if_neg (by omega)]
      rfl
  | cons a A ih =>
    rw [List.cons_append, rank_cons, if_pos (hA a (by simp)), ih (fun x hx => hA x (by simp [hx]))]
    rfl
/-- Into, and out of, a list in parts. -/
theorem put_new {A B : List Rt} {r : Rt} (hA : ∀ x ∈ A, cmpP x.to r.to < 0) (hB : ∀ x ∈ B, 0 < cmpP x.to r.to) : hasP (A ++ B) r.to = false ∧ putL (A ++ B) r = A ++ r :: B := by
  have h1 : hasP (A ++ B) r.to = false := by
    rw [has_app, has_none fun x hx => ne_lt (hA x hx), has_none fun x hx => ne_gt (hB x hx)]
    rfl
  refine ⟨h1, ?_⟩
  unfold putL
  rw [h1, rank_split hA (fun x hx => by have := hB x hx; omega)]
  simp
theorem put_old {A B : List Rt} {y r : Rt} (hA : ∀ x ∈ A, cmpP x.to r.to < 0) (hy : y.to = r.to) : hasP (A ++ y :: B) r.to = true ∧ ((∀ x ∈ B, 0 < cmpP x.to r.to) → putL (A ++ y :: B) r = A ++ r :: B) := by
  have h1 : hasP (A ++ y :: B) r.to = true := has_iff.2 ⟨y, by simp, hy⟩
  refine ⟨h1, fun hB => ?_⟩
  have hr : rank (A ++ y :: B) r.to = A.length := rank_split hA (fun x hx => by
    rcases List.mem_cons.1 hx with rfl | hx
    · rw [hy, cmp_self]; omega
    · have := hB x hx; omega)
  unfold putL
  rw [h1, hr]
  simp
theorem cut_old {A B : List Rt} {y : Rt} (hA : ∀ x ∈ A, cmpP x.to y.to < 0) (hB : ∀ x ∈ B, 0 < cmpP x.to y.to) : cutP (A ++ y :: B) y.to = A ++ B := by
  have hr : rank (A ++ y :: B) y.to = A.length := rank_split hA (fun x hx => by
    rcases List.mem_cons.1 hx with rfl | hx
    · rw [cmp_self]; omega
    · have := hB x hx; omega)
  unfold cutP
  rw [hr]
  simp
theorem split_has {t : List Rt} (hs : Sorted t) {p : Px} (h : hasP t p = true) : ∃ A y B, t = A ++ y :: B ∧ y.to = p ∧ (∀ x ∈ A, cmpP x.to y.to < 0) ∧ ∀ x ∈ B, 0 < cmpP x.to y.to := by
  obtain ⟨y, hm, hy⟩ := has_iff.1 h
  obtain ⟨A, B, rfl⟩ := List.append_of_mem hm
  have hp := List.pairwise_append.1 hs
  exact ⟨A, y, B, rfl, hy, fun x hx => hp.2.2 x hx y (by simp), fun x hx => gt_of ((List.pairwise_cons.1 hp.2.1).1 x hx)⟩
theorem split_no {t : List Rt} (hs : Sorted t) {r : Rt} (h : hasP t r.to = false) : ∃ A B, t = A ++ B ∧ (∀ x ∈ A, cmpP x.to r.to < 0) ∧ ∀ x ∈ B, 0 < cmpP x.to r.to :=
  ⟨_, _, (List.take_append_drop (rank t r.to) t).symm, take_rank hs r.ok, behind_no hs r.ok h⟩
theorem has_put {t : List Rt} (hs : Sorted t) (r : Rt) (q : Px) : hasP (putL t r) q = (decide (r.to = q) || hasP t q) := by
  cases h : hasP t r.to
  · obtain ⟨A, B, rfl, hA, hB⟩ := split_no hs h
    rw [(put_new hA hB).2, has_app, has_app, has_cons]
    cases hasP A q <;> simp
  · obtain ⟨A, y, B, rfl, hy, hA, hB⟩ := split_has hs h
    rw [hy] at hA hB
    rw [(put_old hA hy).2 hB, has_app, has_app, has_cons, has_cons, hy]
    cases hasP A q <;> cases decide (r.to = q) <;> simp
theorem has_cut {t : List Rt} (hs : Sorted t) {p : Px} (h : hasP t p = true) (q : Px) : hasP (cutP t p) q = (hasP t q && !decide (p = q)) := by
  obtain ⟨A, y, B, rfl, rfl, hA, hB⟩ := split_has hs h
  rw [cut_old hA hB, has_app, has_app, has_cons]
  by_cases e : y.to = q
  · subst e
    rw [has_none fun x hx => ne_lt (hA x hx), has_none fun x hx => ne_gt (hB x hx)]
    simp
  · simp [e]

/-! ### Changes, done one by one -/
def Fine : List Rt → List Ic → Prop
  | _, [] => True
  | t, i :: is => ((doS t i.kind i.route).2 = 0 ∨ 300 ≤ (doS t i.kind i.route).1.length) ∧ Fine (doS t i.kind i.route).1 is
def runC : List Rt → List Ic → List Rt
  | t, [] => t
  | t, i :: is => runC (doS t i.kind i.route).1 is
theorem do_wd {t : List Rt} {a : Rt} (hr : rightR a) (hh : hasP t a.to = true) : doS t 3 (wd a) = (cutP t a.to, 0) := by
  unfold doS
  rw [if_neg (by decide), if_neg (by decide), if_pos rfl, if_pos ⟨hr.1, rfl⟩]
  unfold dropS
  rw [if_pos (show hasP t (wd a).to = true from hh)]
  rfl
theorem do_add {t : List Rt} {b : Rt} (hr : rightR b) (hh : hasP t b.to = false) : doS t 1 b = if 300 ≤ t.length then (t, 7) else (putL t b, 0) := by
  unfold doS putS
  rw [if_pos rfl, if_pos hr, if_neg (by simp [hh]), if_pos hr, if_neg (by simp [hh])]
theorem do_chg {t : List Rt} {b : Rt} (hr : rightR b) (hh : hasP t b.to = true) : doS t 2 b = (putL t b, 0) := by
  unfold doS putS
  rw [if_neg (by decide), if_pos rfl, if_pos hr, if_pos hh, if_pos hr, if_pos hh]
theorem old_gt {old fresh : List Rt} {b : Rt} (hs : Sorted old) (h : 0 < ahd old (b :: fresh)) : ∀ x ∈ old, 0 < cmpP x.to b.to := by
  cases old with
  | nil => intro x hx; simp at hx
  | cons a l =>
    have h0 : 0 < cmpP a.to b.to := h
    intro x hx
    rcases List.mem_cons.1 hx with rfl | hx
    · exact h0
    · have h1 := cmp_lt_trans b.ok a.ok x.ok (by rw [cmp_neg b.ok a.ok]; omega) (hs.head x hx)
      exact gt_of h1
theorem fine (n : Nat) : ∀ (old fresh t : List Rt), old.length + fresh.length ≤ n → Sorted old → Sorted fresh → Sorted t → t.length ≤ 300 → (∀ a ∈ old, rightR a) → (∀ b ∈ fresh, rightR b) → (∀ a ∈ old, hasP t a.to = true) → (∀ b ∈ fresh, hasP t b.to = hasP old b.to) → Fine t (chg old fresh) := by
  induction n with
  | zero =>
    intro old fresh t hn _ _ _ _ _ _ _ _
    obtain rfl : old = [] := List.eq_nil_of_length_eq_zero (by omega)
    obtain rfl : fresh = [] := List.eq_nil_of_length_eq_zero (by omega)
    rw [chg_nil]
    trivial
  | succ n ih =>
    intro old fresh t hn so sf st hl ro rf ho hf
    by_cases hend : old = [] ∧ fresh = []
    · obtain ⟨rfl, rfl⟩ := hend
      rw [chg_nil]
      trivial
    by_cases hneg : ahd old fresh < 0
    · obtain ⟨a, l, rfl⟩ := ahd_neg hneg
      rw [chg_old a l fresh hneg]
      have hh := ho a (by simp)
      have hd := do_wd (ro a (by simp)) hh
      have hcl := cutP_len st a.ok hh
      unfold Fine
      simp only [hd]
      refine ⟨.inl trivial, ih l fresh _ (by simp at hn; omega) so.tail sf (cutP_sorted st _) (by omega) (fun x hx => ro x (by simp [hx])) rf (fun x hx => ?_) (fun b hb => ?_)⟩
      · rw [has_cut st hh, ho x (by simp [hx])]
        simp [ne_lt (so.head x hx)]
      · rw [has_cut st hh, hf b hb, has_cons]
        by_cases e : a.to = b.to
        · rw [← e, has_none fun x hx => Ne.symm (ne_lt (so.head x hx))]
          simp
        · simp [e]
    · by_cases hpos : 0 < ahd old fresh
      · obtain ⟨b, m, rfl⟩ := ahd_pos hpos hend
        rw [chg_new b old m hpos]
        have hh : hasP t b.to = false := by
          rw [hf b (by simp)]
          exact has_none fun x hx => ne_gt (old_gt so hpos x hx)
        have hd := do_add (rf b (by simp)) hh
        unfold Fine
        simp only [hd]
        by_cases hb : 300 ≤ t.length
        · rw [if_pos hb]
          exact ⟨.inr hb, ih old m t (by simp at hn; omega) so sf.tail st hl ro (fun x hx => rf x (by simp [hx])) ho (fun x hx => hf x (by simp [hx]))⟩
        · rw [if_neg hb]
          have hpl := putL_len st b
          rw [hh, if_neg (by simp)] at hpl
          refine ⟨.inl rfl, ih old m _ (by simp at hn; omega) so sf.tail (putL_sorted st b) (by dsimp only; omega) ro (fun x hx => rf x (by simp [hx])) (fun x hx => ?_) (fun x hx => ?_)⟩
          · rw [has_put st, ho x hx]
            simp
          · rw [has_put st, hf x (by simp [hx])]
            simp [ne_lt (sf.head x hx)]
      · have hz : ahd old fresh = 0 := by omega
        obtain ⟨a, l, b, m, rfl, rfl⟩ := ahd_zero hz
        have hab : a.to = b.to := (cmp_zero a.ok b.ok).1 hz
        have hm : ∀ x ∈ m, hasP t x.to = hasP l x.to := fun x hx => by
          rw [hf x (by simp [hx]), has_cons, hab]
          simp [ne_lt (sf.head x hx)]
        rw [chg_same a b l m hz]
        by_cases e : a = b
        · rw [if_pos e]
          exact ih l m t (by simp at hn; omega) so.tail sf.tail st hl (fun x hx => ro x (by simp [hx])) (fun x hx => rf x (by simp [hx])) (fun x hx => ho x (by simp [hx])) hm
        · rw [if_neg e]
          have hh : hasP t b.to = true := by
            rw [← hab]
            exact ho a (by simp)
          have hd := do_chg (rf b (by simp)) hh
          have hpl := putL_len st b
          rw [hh, if_pos rfl] at hpl
          unfold Fine
          simp only [hd]
          refine ⟨.inl trivial, ih l m _ (by simp at hn; omega) so.tail sf.tail (putL_sorted st b) (by omega) (fun x hx => ro x (by simp [hx])) (fun x hx => rf x (by simp [hx])) (fun x hx => ?_) (fun x hx => ?_)⟩
          · rw [has_put st, ho x (by simp [hx])]
            simp
          · rw [has_put st, hm x hx]
            simp [ne_lt (sf.head x hx)]
theorem run_chg (n : Nat) : ∀ (old fresh A : List Rt), old.length + fresh.length ≤ n → Sorted old → Sorted fresh → A.length + old.length + fresh.length ≤ 300 → (∀ a ∈ old, rightR a) → (∀ b ∈ fresh, rightR b) → (∀ x ∈ A, ∀ y ∈ old, cmpP x.to y.to < 0) → (∀ x ∈ A, ∀ y ∈ fresh, cmpP x.to y.to < 0) → runC (A ++ old) (chg old fresh) = A ++ fresh := by
  induction n with
  | zero =>
    intro old fresh A hn _ _ _ _ _ _ _
    obtain rfl : old = [] := List.eq_nil_of_length_eq_zero (by omega)
    obtain rfl : fresh = [] := List.eq_nil_of_length_eq_zero (by omega)
    rw [chg_nil]
    rfl
  | succ n ih =>
    intro old fresh A hn so sf hl ro rf ho hf
    by_cases hend : old = [] ∧ fresh = []
    · obtain ⟨rfl, rfl⟩ := hend
      rw [chg_nil]
      rfl
    by_cases hneg : ahd old fresh < 0
    · obtain ⟨a, l, rfl⟩ := ahd_neg hneg
      rw [chg_old a l fresh hneg]
      have hA : ∀ x ∈ A, cmpP x.to a.to < 0 := fun x hx => ho x hx a (by simp)
      have hd := do_wd (t := A ++ a :: l) (ro a (by simp)) (has_iff.2 ⟨a, by simp, rfl⟩)
      rw [cut_old hA fun x hx => gt_of (so.head x hx)] at hd
      unfold runC
      simp only [hd]
      exact ih l fresh A (by simp at hn; omega) so.tail sf (by simp at hl; omega) (fun x hx => ro x (by simp [hx])) rf (fun x hx y hy => ho x hx y (by simp [hy])) hf
    · by_cases hpos : 0 < ahd old fresh
      · obtain ⟨b, m, rfl⟩ := ahd_pos hpos hend
        rw [chg_new b old m hpos]
        have hA : ∀ x ∈ A, cmpP x.to b.to < 0 := fun x hx => hf x hx b (by simp)
        obtain ⟨h1, h2⟩ := put_new hA (old_gt so hpos)
        have hd := do_add (rf b (by simp)) h1
        rw [if_neg (by simp at hl ⊢; omega), h2] at hd
        unfold runC
        simp only [hd]
        have := ih old m (A ++ [b]) (by simp at hn; omega) so sf.tail (by simp at hl ⊢; omega) ro (fun x hx => rf x (by simp [hx])) (fun x hx y hy => by
          rcases List.mem_append.1 hx with h | h
          · exact ho x h y hy
          · simp at h
            subst h
            have := old_gt so hpos y hy
            rw [cmp_neg x.ok y.ok]
            omega) (fun x hx y hy => by
          rcases List.mem_append.1 hx with h | h
          · exact hf x h y (by simp [hy])
          · simp at h
            subst h
            exact sf.head y hy)
        simpa using this
      · have hz : ahd old fresh = 0 := by omega
        obtain ⟨a, l, b, m, rfl, rfl⟩ := ahd_zero hz
        have hab : a.to = b.to := (cmp_zero a.ok b.ok).1 hz
        have hA : ∀ x ∈ A, cmpP x.to b.to < 0 := fun x hx => hf x hx b (by simp)
        have hgo : runC (A ++ [b] ++ l) (chg l m) = A ++ [b] ++ m := ih l m (A ++ [b]) (by simp at hn; omega) so.tail sf.tail (by simp at hl ⊢; omega) (fun x hx => ro x (by simp [hx])) (fun x hx => rf x (by simp [hx])) (fun x hx y hy => by
          rcases List.mem_append.1 hx with h | h
          · exact ho x h y (by simp [hy])
          · simp at h
            subst h
            rw [← hab]
            exact so.head y hy) (fun x hx y hy => by
          rcases List.mem_append.1 hx with h | h
          · exact hf x h y (by simp [hy])
          · simp at h
            subst h
            exact sf.head y hy)
        rw [chg_same a b l m hz]
        by_cases e : a = b
        · rw [if_pos e, e]
          simpa using hgo
        · rw [if_neg e]
          obtain ⟨h1, h2⟩ := put_old (B := l) hA hab
          have hd := do_chg (rf b (by simp)) h1
          rw [h2 fun x hx => by rw [← hab]; exact gt_of (so.head x hx)] at hd
          unfold runC
          simp only [hd]
          simpa using hgo
theorem chg_len (n : Nat) : ∀ (l m : List Rt), l.length + m.length ≤ n → (chg l m).length ≤ l.length + m.length ∧ (chg l m = [] ↔ l = m) := by
  induction n with
  | zero =>
    intro l m hn
    obtain rfl : l = [] := List.eq_nil_of_length_eq_zero (by omega)
    obtain rfl : m = [] := List.eq_nil_of_length_eq_zero (by omega)
    rw [chg_nil]
    simp
  | succ n ih =>
    intro l m hn
    by_cases hend : l = [] ∧ m = []
    · obtain ⟨rfl, rfl⟩ := hend
      rw [chg_nil]
      simp
    by_cases hneg : ahd l m < 0
    · obtain ⟨a, k, rfl⟩ := ahd_neg hneg
      have := ih k m (by simp at hn; omega)
      rw [chg_old a k m hneg]
      refine ⟨by simp; omega, by simp, fun e => ?_⟩
      rw [← e] at hneg
      simp only [ahd, cmp_self] at hneg
      omega
    · by_cases hpos : 0 < ahd l m
      · obtain ⟨b, k, rfl⟩ := ahd_pos hpos hend
        have := ih l k (by simp at hn; omega)
        rw [chg_new b l k hpos]
        refine ⟨by simp; omega, by simp, fun e => ?_⟩
        rw [e] at hpos
        simp only [ahd, cmp_self] at hpos
        omega
      · have hz : ahd l m = 0 := by omega
        obtain ⟨a, k, b, j, rfl, rfl⟩ := ahd_zero hz
        have := ih k j (by simp at hn; omega)
        rw [chg_same a b k j hz]
        by_cases e : a = b
        · rw [if_pos e]
          refine ⟨by simp; omega, ?_⟩
          rw [this.2, e]
          simp
        · rw [if_neg e]
          exact ⟨by simp; omega, by simp, fun h => absurd (List.cons.inj h).1 e⟩
end Go.Proofs.YtgkgpdlakamgiaaGreat
