/- Proved: what crc's Flip and the document's own Flip answer. Condition: numbers of 32 bits; a text's length fits. -/
import Derived.Test.YtbakmfeikkpmjaaKc
import Derived.Laws.IdiomStrings
namespace Go.Proofs.Ytbakmfeikkpmjaa
open Go.RowKit

/-- The bytes l lie at the beginning of block b. -/
structure Bytes (w : World) (b : Nat) (l : List UInt8) : Prop where
  cell : ∀ j (h : j < l.length), w.cell? ⟨b, j, none⟩ = some (.int .u8 (l[j].toNat : Nat))
  free : ∀ j, j < l.length → w.frozen? ⟨b, j, none⟩ = false

theorem Bytes.drewN {w : World} {b : Nat} {l : List UInt8} (h : Bytes w b l) (n : Nat) : Bytes (w.drewN n) b l := ⟨h.cell, h.free⟩
theorem Bytes.drew {w : World} {b : Nat} {l : List UInt8} (h : Bytes w b l) : Bytes w.drew b l := ⟨h.cell, h.free⟩
theorem Bytes.set {w : World} {b : Nat} {l : List UInt8} (h : Bytes w b l) (j : Nat) (hj : j < l.length) (c : Nat) (hc : c < 256) : Bytes (w.setCell ⟨b, j, none⟩ (.int .u8 c)) b (l.set j (UInt8.ofNat c)) := by
  refine ⟨fun i hi => ?_, fun i hi => by rw [World.frozen?_setCell]; exact h.free i (by simpa using hi)⟩
  by_cases e : i = j
  · subst e
    rw [World.cell?_setCell_same _ _ _ (h.cell i hj)]
    simp [Nat.mod_eq_of_lt hc]
  · rw [World.cell?_setCell_other _ _ _ _ (by intro x; injection x with _ x _; omega)]
    rw [h.cell i (by simpa using hi), List.getElem_set_ne (fun h => e h.symm)]

/-- '[]byte(s)'. -/
theorem bytes_new (s : List UInt8) (w : World) : ∃ cap w2, (convert 9 46 (.string ⟨s.toArray⟩)).run Try.prog w = .ok (.slice (some ⟨w.heap.size, 0, none⟩) s.length cap) w2 ∧ Bytes w2 w.heap.size s ∧ Same w w2 := by
  refine ⟨_, _, run_bytes_of_string w 9 46 5 ⟨s.toArray⟩ Try.underlying9 Try.underlying46 Try.underlying5, ⟨fun j hj => ?_, fun j hj => ?_⟩, ((Same.refl w).drew).alloc _⟩
  · have h := World.cell?_alloc_mark w.drew (bytesRow ⟨s.toArray⟩ (grownCap w (⟨s.toArray⟩ : ByteArray).size 0 5)) 5 ((bytesRow ⟨s.toArray⟩ (grownCap w (⟨s.toArray⟩ : ByteArray).size 0 5)).size, (bytesRow ⟨s.toArray⟩ (grownCap w (⟨s.toArray⟩ : ByteArray).size 0 5)).size + 1) j
    refine h.trans ?_
    unfold bytesRow
    rw [Array.getElem?_append_left (by simpa using hj)]
    simp [hj]
  · have hsz : s.length ≤ (bytesRow ⟨s.toArray⟩ (grownCap w (⟨s.toArray⟩ : ByteArray).size 0 5)).size := by unfold bytesRow; simp
    generalize bytesRow ⟨s.toArray⟩ (grownCap w (⟨s.toArray⟩ : ByteArray).size 0 5) = C at *
    have : (w.drew.alloc (.cells C 5 (C.size, C.size + 1))).heap[w.heap.size]? = some (.cells C 5 (C.size, C.size + 1)) := heap_alloc_last w.drew _
    unfold World.frozen?
    rw [this]
    simp
    omega
/-- 'string(b)'. -/
theorem Bytes.back {w : World} {b : Nat} {l : List UInt8} (h : Bytes w b l) (cap : Nat) : (convert 46 9 (.slice (some ⟨b, 0, none⟩) l.length cap)).run Try.prog w = .ok (.string ⟨l.toArray⟩) w := by
  refine run_convert_bytes_back w 46 9 5 ⟨b, 0, none⟩ cap l Try.underlying46 Try.underlying5 Try.underlying9 ?_
  intro j hj
  have hadd : (⟨b, 0, none⟩ : Addr).add j = ⟨b, j, none⟩ := by unfold Addr.add; split <;> simp_all
  rw [hadd]
  exact h.cell j hj

/-- Where the turning is, by 64 bits. -/
def At (p : Int) (i : Nat) (q : Int) : Prop := (q = p + i ∧ q ≤ 9223372036854775807) ∨ (9223372036854775807 < p + i ∧ q = p + i - 18446744073709551616)

theorem flip_step (s : List UInt8) (p : Int) (b i : Nat) (q : Int) (hq : At p i q) (hi : i < 33) (hp : p ≤ 9223372036854775807) (hs : 8 * s.length ≤ 9223372036854775807) :
    K.xorN s (K.big p (b % 2 ^ (i + 1))) = if b / 2 ^ i % 2 = 1 ∧ 0 ≤ q ∧ q.toNat / 8 < s.length then K.xorN (K.xorN s (K.big p (b % 2 ^ i))) (2 ^ q.toNat) else K.xorN s (K.big p (b % 2 ^ i)) := by
  rw [K.big_step, ← K.xorN_xorN]
  have hl := K.xorN_len s (K.big p (b % 2 ^ i))
  generalize K.xorN s (K.big p (b % 2 ^ i)) = l at *
  by_cases h1 : b / 2 ^ i % 2 = 1
  · by_cases h2 : 0 ≤ p + i
    · rw [if_pos ⟨h1, h2⟩]
      rcases hq with ⟨rfl, _⟩ | ⟨h3, rfl⟩
      · by_cases h4 : (p + i).toNat / 8 < s.length
        · rw [if_pos ⟨h1, h2, h4⟩]
        · rw [if_neg (by simp [h4])]
          exact K.xorN_over _ _ (by omega)
      · rw [if_neg (by simp; omega)]
        exact K.xorN_over _ _ (by omega)
    · rw [if_neg (by simp [h2]), K.xorN_zero]
      rcases hq with ⟨rfl, _⟩ | ⟨h3, rfl⟩
      · rw [if_neg (by simp [h2])]
      · omega
  · rw [if_neg (by simp [h1]), if_neg (by simp [h1]), K.xorN_zero]

def nxt (q : Int) : Int := wrap64 (q + 1)
theorem At.next {p : Int} {i : Nat} {q : Int} (h : At p i q) (hi : i < 33) (hp1 : -9223372036854775808 ≤ p) (hp2 : p ≤ 9223372036854775807) : At p (i + 1) (nxt q) := by
  unfold At nxt wrap64 at *
  omega
theorem At.range {p : Int} {i : Nat} {q : Int} (h : At p i q) (hi : i < 33) (hp1 : -9223372036854775808 ≤ p) (hp2 : p ≤ 9223372036854775807) : -9223372036854775808 ≤ q ∧ q ≤ 9223372036854775807 := by
  unfold At at h
  omega

theorem xorBit (c : UInt8) (k : Nat) : bits .xor .u8 (c.toNat : Int) (2 ^ (k % 8) % 256) = ((c.toNat ^^^ 2 ^ (k % 8) : Nat) : Int) := by
  have h8 : 2 ^ (k % 8) < 256 := Nat.pow_lt_pow_right (n := 8) (by omega) (by omega)
  have h := u8_xor_nat c.toNat (2 ^ (k % 8)) c.toNat_lt h8
  have e : (2 ^ (k % 8) % 256 : Int) = ((2 ^ (k % 8) : Nat) : Int) := by
    have h2 : ((2 ^ (k % 8) : Nat) : Int) = 2 ^ (k % 8) := by simp
    rw [← h2]
    clear h2 h
    generalize (2 ^ (k % 8) : Nat) = z at h8 ⊢
    omega
  rw [e]
  exact h
theorem xorBit_lt (c : UInt8) (k : Nat) : c.toNat ^^^ 2 ^ (k % 8) < 256 :=
  Nat.xor_lt_two_pow (n := 8) c.toNat_lt (Nat.pow_lt_pow_right (n := 8) (by omega) (by omega))
theorem half (b i c : Nat) (h : c = b / 2 ^ i) : c / 2 = b / 2 ^ (i + 1) := by rw [h, Nat.div_div_eq_div_mul, Nat.pow_succ]
theorem small (b i c : Nat) (hb : b < 4294967296) (h : c / 2 = b / 2 ^ (i + 1)) (h0 : ¬ c / 2 = 0) : i + 1 < 32 := by
  by_cases hi : i + 1 < 32
  · exact hi
  · rw [h, Nat.div_eq_of_lt (Nat.lt_of_lt_of_le hb (show 2 ^ 32 ≤ 2 ^ (i + 1) from Nat.pow_le_pow_right (by omega) (by omega)))] at h0
    exact absurd rfl h0

def FlipJ (s : List UInt8) (p : Int) (b : Nat) (w : World) (g cap : Nat) (a : Act) (w' : World) : Prop :=
  ∃ i c : Nat, ∃ q : Int, ∃ v1 v2 u10 u11 u12 u13 u14 u15 u16 u17 u18 u19 u20 u21 u22 u23 u24 u25 u26 u27 u28 u29 u30 u31 u32 u33 u34 u35 u36 u37 u38 u39, a = { tmps := #[.string ⟨s.toArray⟩, v1, v2, undef, undef, undef, .string ⟨#[]⟩, .slice (some ⟨g, 0, none⟩) s.length cap, .string ⟨s.toArray⟩, .slice (some ⟨g, 0, none⟩) s.length cap, u10, u11, u12, u13, u14, u15, u16, u17, u18, u19, u20, u21, u22, u23, u24, u25, u26, u27, u28, u29, u30, u31, u32, u33, u34, u35, u36, u37, u38, u39, undef, undef], defers := [] } ∧
    v1 = .int .i64 q ∧ v2 = .int .u32 c ∧ c = b / 2 ^ i ∧ i < 32 ∧ At p i q ∧ Bytes w' g (K.xorN s (K.big p (b % 2 ^ i))) ∧ Same w w'
def FlipM (a : Act) (_ : World) : Nat := (intOf (a.tmps.getD 2 undef)).toNat

set_option maxRecDepth 100000 in
theorem flip_at (s : List UInt8) (p : Int) (b : Nat) (w : World) (hs : s.length ≤ 1000000000) (hb : b < 4294967296) (hp1 : -9223372036854775808 ≤ p) (hp2 : p ≤ 9223372036854775807) : Calls Try.prog 17 #[.string ⟨s.toArray⟩, .int .i64 p, .int .u32 b] w fun e w' => e = .returned (.string ⟨(K.xorN s (K.big p b)).toArray⟩) ∧ Same w w' := by
  obtain ⟨cap, w2, hcv, hby, hsame⟩ := bytes_new s w
  have HB := Lib.hid hby
  have HS := Lib.hid hsame
  clear hby hsame
  go_enter Try.func17, Try.ntmps17
  go_wp2
  refine wp_scope_again 0 (FlipJ s p b w w.heap.size cap) FlipM rfl ?_ ?_
  · rintro a w' m ⟨i, c, q, v1, v2, u10, u11, u12, u13, u14, u15, u16, u17, u18, u19, u20, u21, u22, u23, u24, u25, u26, u27, u28, u29, u30, u31, u32, u33, u34, u35, u36, u37, u38, u39, rfl, rfl, rfl, hcd, hi, hq, hby, hsame⟩ hm
    obtain ⟨hq1, hq2⟩ := hq.range (by omega) hp1 hp2
    have HQ := Lib.hid hq
    have HB2 := Lib.hid hby
    have HS2 := Lib.hid hsame
    have Hstep := Lib.hid (flip_step s p b i q hq (by omega) hp2 (by omega))
    have hlt : b / 2 ^ i < 4294967296 := Nat.lt_of_le_of_lt (Nat.div_le_self _ _) hb
    have HM := Lib.hid hm
    rw [← hcd] at hlt Hstep
    have hand := andP _ hlt
    have Hcd := Lib.hid hcd
    clear hq hby hsame hcv HB HS hm hcd
    by_cases hc : c % 2 = 1
    · rw [hc] at hand
      by_cases hq0 : 0 ≤ q
      · obtain ⟨k, rfl⟩ : ∃ k : Nat, q = k := ⟨q.toNat, by omega⟩
        by_cases hk : k / 8 < s.length
        · have hxl := K.xorN_len s (K.big p (b % 2 ^ i))
          generalize K.xorN s (K.big p (b % 2 ^ i)) = l at *
          have hcell := HB2.out.cell (k / 8) (by omega)
          have hfree := HB2.out.free (k / 8) (by omega)
          have hk2 : (k : Int) / 8 < s.length := by omega
          go_wp2
          go_region
          rw [xorBit]
          have HB3 := Lib.hid ((HB2.out.set (k / 8) (by omega) _ (xorBit_lt l[k / 8] k)).drew)
          rw [K.xorN_bit l k (by omega)] at HB3
          have HS3 := Lib.hid ((HS2.out.setCell w.heap.size (k / 8) (.int .u8 (l[k / 8].toNat ^^^ 2 ^ (k % 8) : Nat)) (Nat.le_refl _)).drew)
          have hst := Hstep.out
          rw [if_pos ⟨hc, by omega, by simpa using hk⟩] at hst
          simp only [Int.toNat_natCast] at hst
          rw [← hst] at HB3
          generalize (w'.setCell ⟨w.heap.size, k / 8, none⟩ (.int .u8 (l[k / 8].toNat ^^^ 2 ^ (k % 8) : Nat))).drew = w3 at *
          clear hcell hfree hst HS2 HB2 Hstep
          have hxl2 := K.xorN_len s (K.big p (b % 2 ^ (i + 1)))
          have hbk := HB3.out.back cap
          rw [hxl2] at hbk
          have Hnext := Lib.hid (HQ.out.next (by omega) hp1 hp2)
          have Hcd2 := Lib.hid (half b i c Hcd.out)
          by_cases hc2 : c / 2 = 0
          · have hz : ((c : Int) / 2 != 0) = false := by simp; omega
            go_wp2
            simp only [Exit.jump]
            go_ret
            have e : b % 2 ^ (i + 1) = b := Nat.mod_eq_of_lt (Nat.lt_of_div_eq_zero (Nat.pow_pos (by omega)) (by rw [← Hcd2.out]; exact hc2))
            rw [e]
            exact ⟨rfl, HS3.out⟩
          · have hz : ((c : Int) / 2 != 0) = true := by simp; omega
            go_wp2
            go_step3
            refine ⟨rfl, ⟨i + 1, c / 2, nxt (k : Int), _, _, _, _, _, _, _, _, _, _, _, _, _, _, _, _, _, _, _, _, _, _, _, _, _, _, _, _, _, _, _, _, rfl, ?_, ?_, Hcd2.out, ?_, Hnext.out, HB3.out, HS3.out⟩, ?_⟩
            · simp [nxt, wrap64]
              try omega
            · simp
            · exact small b i c hb Hcd2.out hc2
            · have := HM.out
              simp [FlipM, intOf] at this ⊢
              omega
        · have hk2 : ¬ ((k : Int) / 8 < s.length) := by omega
          have hst := Hstep.out
          rw [if_neg (by simp; omega)] at hst
          have HB3 := HB2
          have HS3 := HS2
          rw [← hst] at HB3
          clear hst HS2 HB2 Hstep
          have hxl2 := K.xorN_len s (K.big p (b % 2 ^ (i + 1)))
          have hbk := HB3.out.back cap
          rw [hxl2] at hbk
          have Hnext := Lib.hid (HQ.out.next (by omega) hp1 hp2)
          have Hcd2 := Lib.hid (half b i c Hcd.out)
          by_cases hc2 : c / 2 = 0
          · have hz : ((c : Int) / 2 != 0) = false := by simp; omega
            go_wp2
            simp only [Exit.jump]
            go_ret
            have e : b % 2 ^ (i + 1) = b := Nat.mod_eq_of_lt (Nat.lt_of_div_eq_zero (Nat.pow_pos (by omega)) (by rw [← Hcd2.out]; exact hc2))
            rw [e]
            exact ⟨rfl, HS3.out⟩
          · have hz : ((c : Int) / 2 != 0) = true := by simp; omega
            go_wp2
            go_step3
            refine ⟨rfl, ⟨i + 1, c / 2, nxt (k : Int), _, _, _, _, _, _, _, _, _, _, _, _, _, _, _, _, _, _, _, _, _, _, _, _, _, _, _, _, _, _, _, _, rfl, ?_, ?_, Hcd2.out, ?_, Hnext.out, HB3.out, HS3.out⟩, ?_⟩
            · simp [nxt, wrap64]
              try omega
            · simp
            · exact small b i c hb Hcd2.out hc2
            · have := HM.out
              simp [FlipM, intOf] at this ⊢
              omega
      · have hst := Hstep.out
        rw [if_neg (by simp [hq0])] at hst
        have HB3 := HB2
        have HS3 := HS2
        rw [← hst] at HB3
        clear hst HS2 HB2 Hstep
        have hxl2 := K.xorN_len s (K.big p (b % 2 ^ (i + 1)))
        have hbk := HB3.out.back cap
        rw [hxl2] at hbk
        have Hnext := Lib.hid (HQ.out.next (by omega) hp1 hp2)
        have Hcd2 := Lib.hid (half b i c Hcd.out)
        by_cases hc2 : c / 2 = 0
        · have hz : ((c : Int) / 2 != 0) = false := by simp; omega
          go_wp2
          simp only [Exit.jump]
          go_ret
          have e : b % 2 ^ (i + 1) = b := Nat.mod_eq_of_lt (Nat.lt_of_div_eq_zero (Nat.pow_pos (by omega)) (by rw [← Hcd2.out]; exact hc2))
          rw [e]
          exact ⟨rfl, HS3.out⟩
        · have hz : ((c : Int) / 2 != 0) = true := by simp; omega
          go_wp2
          go_step3
          refine ⟨rfl, ⟨i + 1, c / 2, nxt q, _, _, _, _, _, _, _, _, _, _, _, _, _, _, _, _, _, _, _, _, _, _, _, _, _, _, _, _, _, _, _, _, rfl, ?_, ?_, Hcd2.out, ?_, Hnext.out, HB3.out, HS3.out⟩, ?_⟩
          · simp [nxt, wrap64]
            try omega
          · simp
          · exact small b i c hb Hcd2.out hc2
          · have := HM.out
            simp [FlipM, intOf] at this ⊢
            omega
    · have hc0 : c % 2 = 0 := by omega
      rw [hc0] at hand
      have hst := Hstep.out
      rw [if_neg (by simp [hc0])] at hst
      have HB3 := HB2
      have HS3 := HS2
      rw [← hst] at HB3
      clear hst HS2 HB2 Hstep
      have hxl2 := K.xorN_len s (K.big p (b % 2 ^ (i + 1)))
      have hbk := HB3.out.back cap
      rw [hxl2] at hbk
      have Hnext := Lib.hid (HQ.out.next (by omega) hp1 hp2)
      have Hcd2 := Lib.hid (half b i c Hcd.out)
      by_cases hc2 : c / 2 = 0
      · have hz : ((c : Int) / 2 != 0) = false := by simp; omega
        go_wp2
        simp only [Exit.jump]
        go_ret
        have e : b % 2 ^ (i + 1) = b := Nat.mod_eq_of_lt (Nat.lt_of_div_eq_zero (Nat.pow_pos (by omega)) (by rw [← Hcd2.out]; exact hc2))
        rw [e]
        exact ⟨rfl, HS3.out⟩
      · have hz : ((c : Int) / 2 != 0) = true := by simp; omega
        go_wp2
        go_step3
        refine ⟨rfl, ⟨i + 1, c / 2, nxt q, _, _, _, _, _, _, _, _, _, _, _, _, _, _, _, _, _, _, _, _, _, _, _, _, _, _, _, _, _, _, _, _, rfl, ?_, ?_, Hcd2.out, ?_, Hnext.out, HB3.out, HS3.out⟩, ?_⟩
        · simp [nxt, wrap64]
          try omega
        · simp
        · exact small b i c hb Hcd2.out hc2
        · have := HM.out
          simp [FlipM, intOf] at this ⊢
          omega
  · intro again
    go_wp2
    go_step3
    rename_i hK
    exact hK _ _ (again _ _ ⟨0, b, p, _, _, _, _, _, _, _, _, _, _, _, _, _, _, _, _, _, _, _, _, _, _, _, _, _, _, _, _, _, _, _, _, rfl, rfl, rfl, by simp, by omega, .inl ⟨by simp, hp2⟩, by rw [Nat.pow_zero, Nat.mod_one, K.big_zero, K.xorN_zero]; exact HB.out, HS.out⟩)
theorem flip (s : List UInt8) (p : Int) (b : Nat) (hs : s.length ≤ 1000000000) (hb : b < 4294967296) (hp1 : -9223372036854775808 ≤ p) (hp2 : p ≤ 9223372036854775807) : Gives Try.prog 17 #[.string ⟨s.toArray⟩, .int .i64 p, .int .u32 b] (.string ⟨(K.xorN s (K.big p b)).toArray⟩) :=
  fun w => flip_at s p b w hs hb hp1 hp2

theorem tmod2 (b j : Nat) : ((b : Int) / 2 ^ j).tmod 2 = ((b / 2 ^ j % 2 : Nat) : Int) := by
  have e : (b : Int) / 2 ^ j = ((b / 2 ^ j : Nat) : Int) := by simp
  rw [e]
  generalize b / 2 ^ j = z
  rw [Int.tmod_eq_emod_of_nonneg (by omega)]
  omega

def RefRel (s : List UInt8) (p : Int) (b : Nat) (w : World) (g : Nat) (i : Value) (wr : World) : Prop :=
  ∃ k : Nat, i = .int .i64 k ∧ k ≤ 8 * s.length ∧ Bytes wr g (K.xorN s (K.big p b % 2 ^ k)) ∧ Same w wr

theorem ref_step (s : List UInt8) (p : Int) (b k : Nat) (hb : b < 4294967296) : K.xorN s (K.big p b % 2 ^ (k + 1)) =
    if p ≤ k ∧ (k : Int) - p < 32 ∧ b / 2 ^ ((k : Int) - p).toNat % 2 = 1 then K.xorN (K.xorN s (K.big p b % 2 ^ k)) (2 ^ k) else K.xorN s (K.big p b % 2 ^ k) := by
  rw [K.mod_step, ← K.xorN_xorN]
  have hbit := K.big_bit p b k
  by_cases h : p ≤ k ∧ (k : Int) - p < 32 ∧ b / 2 ^ ((k : Int) - p).toNat % 2 = 1
  · rw [if_pos h]
    have : (K.big p b).testBit k = true := by
      rw [hbit, Nat.testBit_eq_decide_div_mod_eq]
      simp [h.1, h.2.2]
    rw [if_pos this]
  · rw [if_neg h]
    have : (K.big p b).testBit k = false := by
      rw [hbit]
      by_cases h1 : p ≤ k
      · by_cases h2 : (k : Int) - p < 32
        · have h3 : ¬ (b / 2 ^ ((k : Int) - p).toNat % 2 = 1) := fun h3 => h ⟨h1, h2, h3⟩
          rw [Nat.testBit_eq_decide_div_mod_eq]
          simp [h3]
        · rw [Nat.testBit_lt_two_pow (Nat.lt_of_lt_of_le hb (show 2 ^ 32 ≤ 2 ^ ((k : Int) - p).toNat from Nat.pow_le_pow_right (by omega) (by omega)))]
          simp
      · simp [h1]
    rw [this]
    simp [K.xorN_zero]

end Go.Proofs.Ytbakmfeikkpmjaa
