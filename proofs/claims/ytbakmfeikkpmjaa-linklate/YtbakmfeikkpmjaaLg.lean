/- Proved: what the document's Same answers of two lists of texts; what Fair, and the document's, answer of fates. Condition: lists are short enough for memory. -/
import Derived.Test.YtbakmfeikkpmjaaLf
namespace Go.Proofs.Ytbakmfeikkpmjaa
open Go.RowKit

def EgRel {α : Type} (W : World) (l m : List α) (i : Value) (wr : World) : Prop := ∃ k : Nat, i = .int .i64 k ∧ k ≤ l.length ∧ l.take k = m.take k ∧ Keep W wr
set_option maxRecDepth 100000 in
set_option maxHeartbeats 1000000 in
theorem qsame (u v : Value) (l m : List (List UInt8)) (w : World) (hu : TexS w u l) (hv : TexS w v m) (hl : l.length ≤ 1000000) (_hm : m.length ≤ 1000000) : Calls Try.prog 14 #[u, v] w fun e w' => e = .returned (.bool (decide (l = m))) ∧ Keep w w' := by
  obtain ⟨a1, c1, rfl, _, _⟩ := hu.form
  obtain ⟨a2, c2, rfl, _, _⟩ := hv.form
  by_cases hlen : l.length = m.length
  · have hne : ((l.length : Int) != (m.length : Int)) = false := by simp [hlen]
    have HU := Lib.hid hu
    have HV := Lib.hid hv
    clear hu hv
    obtain ⟨N, hN⟩ : ∃ N, l.length = N := ⟨_, rfl⟩
    obtain ⟨M, hM⟩ : ∃ M, m.length = M := ⟨_, rfl⟩
    have HLN := Lib.hid hN
    have HMN := Lib.hid hM
    rw [hN] at hne hl hlen
    rw [hM] at hne _hm hlen
    rw [hN, hM]
    obtain ⟨D, hD⟩ : ∃ D, decide (l = m) = D := ⟨_, rfl⟩
    rw [hD]
    have HD := Lib.hid hD
    clear hN hM hD
    go_enter Try.func14, Try.ntmps14
    go_wp2
    go_loopw [5] (fun i wr => EgRel w l m i wr) (fun i _ => N - (intOf i).toNat)
    case atStart => exact ⟨0, rfl, Nat.zero_le _, rfl, Keep.refl _⟩
    case round =>
      obtain ⟨k, rfl, hk1, hk2, hk⟩ := hrel
      rw [HLN.out] at hk1
      by_cases hlt : k < N
      · have hltm : k < M := by omega
        obtain ⟨g1, o1, cap1, e1, _, _, _⟩ := HU.out.ptr k (by rw [HLN.out]; exact hlt)
        obtain ⟨g2, o2, cap2, e2, _, _, _⟩ := HV.out.ptr k (by rw [HMN.out]; exact hltm)
        simp at e1 e2
        obtain ⟨rfl, rfl⟩ := e1
        obtain ⟨rfl, rfl⟩ := e2
        obtain ⟨x, hx⟩ : ∃ x, l[k]? = some x := ⟨_, List.getElem?_eq_getElem (by rw [HLN.out]; exact hlt)⟩
        obtain ⟨y, hy⟩ : ∃ y, m[k]? = some y := ⟨_, List.getElem?_eq_getElem (by rw [HMN.out]; exact hltm)⟩
        have hc1 := HU.out
        have hc2 := HV.out
        have d1 : ∀ u : KW wr, u.1.cell? ⟨g1, o1 + k, none⟩ = some (.string ⟨x.toArray⟩) := fun u => (hc1.keep (hk.trans u.2)).txt k x hx
        have d2 : ∀ u : KW wr, u.1.cell? ⟨g2, o2 + k, none⟩ = some (.string ⟨y.toArray⟩) := fun u => (hc2.keep (hk.trans u.2)).txt k y hy
        have HX := Lib.hid hx
        have HY := Lib.hid hy
        have HK := Lib.hid hk
        have HTK := Lib.hid hk2
        clear hx hy hk hk2 hc1 hc2
        by_cases h1 : x = y
        · have hn1 : (x == y) = true := by simp [h1]
          have HXY := Lib.hid h1
          clear h1
          go_wp2_with fail
          refine wp_region_keep (Keep.refl _) (by kernel_rfl) (by kernel_rfl) ?_
          repeat (first | go_big_quiet_step (fail) | quiet_step (fail))
          refine wpQuiet_nil ?_
          rintro w6 ⟨⟨w7, b7⟩, hw6⟩
          obtain rfl : w7 = w6 := hw6.symm
          have HK7 := Lib.hid (HK.out.trans b7)
          clear HK hw6 b7 d1 d2
          go_wp2
          go_roundw
          case rel => exact ⟨k + 1, by go_num, by rw [HLN.out]; omega, by rw [List.take_add_one, List.take_add_one, HTK.out, HX.out, HY.out, HXY.out], HK7.out⟩
          case measure => simp [intOf]; omega
        · have hn1 : (x == y) = false := by simp [h1]
          have HXY := Lib.hid h1
          clear h1
          go_wp2_with fail
          refine wp_region_keep (Keep.refl _) (by kernel_rfl) (by kernel_rfl) ?_
          repeat (first | go_big_quiet_step (fail) | quiet_step (fail))
          refine wpQuiet_nil ?_
          rintro w6 ⟨⟨w7, b7⟩, hw6⟩
          obtain rfl : w7 = w6 := hw6.symm
          have HK7 := Lib.hid (HK.out.trans b7)
          clear HK hw6 b7 d1 d2
          go_wp2
          go_ret
          refine ⟨?_, HK7.out⟩
          rw [← HD.out, decide_eq_false (fun e => HXY.out (by have h1 := HX.out; rw [e, HY.out] at h1; simpa using h1.symm))]
          rfl
      · have hlm : l = m := by
          rw [List.take_of_length_le (by rw [HLN.out]; omega), List.take_of_length_le (by rw [HMN.out]; omega)] at hk2
          exact hk2
        have hDt : D = true := by rw [← HD.out]; exact decide_eq_true hlm
        have HDT := Lib.hid hDt
        have HK := Lib.hid hk
        clear hlm hk2 hDt hk
        go_wp2
        go_ret
        refine ⟨?_, HK.out⟩
        rw [HDT.out]
        rfl
  · have hne : ((l.length : Int) != (m.length : Int)) = true := by simp; omega
    obtain ⟨N, hN⟩ : ∃ N, l.length = N := ⟨_, rfl⟩
    obtain ⟨M, hM⟩ : ∃ M, m.length = M := ⟨_, rfl⟩
    rw [decide_eq_false (fun e => hlen (by rw [e]))]
    rw [hN, hM] at hne ⊢
    clear hu hv hlen hN hM hl _hm
    go_enter Try.func14, Try.ntmps14
    go_wp2
    go_ret
    exact ⟨rfl, Keep.refl _⟩


/-! ### Fair -/
def bad (f : Ft) : Bool := decide (f.kind = 1 ∨ f.kind = 4 ∨ f.kind = 5)
def rowOf (f : Ft) (r : Nat) : Nat := if bad f = true then r + 1 else 0
def fairN (n : Int) : Nat → List Ft → Bool
  | _, [] => true
  | r, f :: l => if n ≤ (rowOf f r : Nat) then false else fairN n (rowOf f r) l
/-- Whether fates are fair. -/
def fairP (l : List Ft) (n : Int) : Bool := fairN n 0 l
theorem fair_more (n : Int) : ∀ (l : List Ft) (r : Nat), fairN n r l = true → fairN (n + 1) r l = true
  | [], _, _ => rfl
  | f :: l, r, h => by
    unfold fairN at h ⊢
    by_cases h1 : n ≤ (rowOf f r : Nat)
    · rw [if_pos h1] at h; cases h
    · rw [if_neg h1] at h
      rw [if_neg (by omega)]
      exact fair_more n l _ h
theorem fair_none (l : List Ft) (n : Int) (h : n < 1) : fairP l n = decide (l.length = 0) := by
  cases l with
  | nil => rfl
  | cons f l =>
    unfold fairP fairN
    rw [if_pos (by omega)]
    simp
theorem fl_of (w : World) {g o cap : Nat} {l : List Ft} (h : Cells fl w (.slice (some ⟨g, o, none⟩) l.length cap) l) (k : Nat) (f : Ft) (hf : l[k]? = some f) :
    w.cell? ⟨g, o + k * 3, none⟩ = some (.int .i64 f.kind) ∧ w.cell? ⟨g, o + k * 3 + 1, none⟩ = some (.int .i64 f.n) ∧ w.cell? ⟨g, o + k * 3 + 2, none⟩ = some (.int .u32 (f.bits : Nat)) :=
  ⟨by simpa using h.cell (k := 3) fl_len k f hf 0 (by omega) _ rfl, h.cell (k := 3) fl_len k f hf 1 (by omega) _ rfl, h.cell (k := 3) fl_len k f hf 2 (by omega) _ rfl⟩
theorem fair_step (n : Int) (l : List Ft) (k r : Nat) (f : Ft) (hf : l[k]? = some f) : fairN n r (l.drop k) = if n ≤ (rowOf f r : Nat) then false else fairN n (rowOf f r) (l.drop (k + 1)) := by
  obtain ⟨h1, h2⟩ := List.getElem?_eq_some_iff.1 hf
  rw [List.drop_eq_getElem_cons h1, h2]
  rfl
theorem row_bad (f : Ft) (r : Nat) (h : f.kind = 1 ∨ f.kind = 4 ∨ f.kind = 5) : rowOf f r = r + 1 := by
  unfold rowOf bad
  rw [decide_eq_true h, if_pos rfl]
theorem row_good (f : Ft) (r : Nat) (h1 : f.kind ≠ 1) (h4 : f.kind ≠ 4) (h5 : f.kind ≠ 5) : rowOf f r = 0 := by
  unfold rowOf bad
  rw [decide_eq_false (by omega)]
  rfl
def FaRel (W : World) (l : List Ft) (n : Int) (r i : Value) (wr : World) : Prop := ∃ a k : Nat, r = .int .i64 a ∧ i = .int .i64 k ∧ k ≤ l.length ∧ a ≤ k ∧ ((a : Int) < n ∨ n < 1) ∧ fairN n a (l.drop k) = fairP l n ∧ Keep W wr
set_option maxRecDepth 100000 in
set_option maxHeartbeats 1000000 in
theorem dfair (v : Value) (l : List Ft) (n : Int) (w : World) (hv : Cells fl w v l) (hl : l.length ≤ 1000000) (hn : -9223372036854775808 ≤ n ∧ n ≤ 9223372036854775807) : Calls Try.prog 7 #[v, .int .i64 n] w fun e w' => e = .returned (.bool (fairP l n)) ∧ Keep w w' := by
  obtain ⟨a1, c1, rfl, _, _⟩ := hv.form
  have HV := Lib.hid hv
  obtain ⟨N, hN⟩ : ∃ N, l.length = N := ⟨_, rfl⟩
  have HLN := Lib.hid hN
  rw [hN] at hl ⊢
  by_cases hn1 : n < 1
  · have hf := fair_none l n hn1
    rw [hN] at hf
    rw [hf]
    have e1 : decide (N = 0) = ((N : Int) == 0) := by rw [Bool.eq_iff_iff]; simp
    rw [e1]
    clear hv hN hf
    go_enter Try.func7, Try.ntmps7
    go_wp2
    go_ret
    exact ⟨rfl, Keep.refl _⟩
  · obtain ⟨D, hD⟩ : ∃ D, fairP l n = D := ⟨_, rfl⟩
    have HD := Lib.hid hD
    rw [hD]
    clear hN hv hD
    go_enter Try.func7, Try.ntmps7
    go_wp2
    go_loopw [5, 15] (fun r i wr => FaRel w l n r i wr) (fun _ i _ => N - (intOf i).toNat)
    case atStart => exact ⟨0, 0, rfl, rfl, Nat.zero_le _, Nat.le_refl _, .inl (by omega), rfl, Keep.refl _⟩
    case round =>
      obtain ⟨r, k, rfl, rfl, hk1, hrk, hr1, hk2, hk⟩ := hrel
      rw [HLN.out] at hk1
      by_cases hlt : k < N
      · obtain ⟨g1, o1, cap1, e1, _, _, _⟩ := HV.out.ptr k (by rw [HLN.out]; exact hlt)
        simp at e1
        obtain ⟨rfl, rfl⟩ := e1
        obtain ⟨f, hx⟩ : ∃ f, l[k]? = some f := ⟨_, List.getElem?_eq_getElem (by rw [HLN.out]; exact hlt)⟩
        obtain ⟨x0, x1, x2⟩ := fl_of wr (HV.out.keep hk) k f hx
        have HX := Lib.hid hx
        have HK := Lib.hid hk
        have HTK := Lib.hid hk2
        clear hx hk hk2
        have HST := Lib.hid (fair_step n l k r f HX.out)
        have hcs : f.kind = 1 ∨ f.kind = 4 ∨ f.kind = 5 ∨ (f.kind ≠ 1 ∧ f.kind ≠ 4 ∧ f.kind ≠ 5) := by omega
        rcases hcs with hk' | hk' | hk' | ⟨hk1', hk4', hk5'⟩
        · have hrow := row_bad f r (by omega)
          rw [hrow] at HST
          by_cases hrn : (r : Int) + 1 = n
          · have HD0 := Lib.hid (show D = false by rw [← HD.out, ← HTK.out, HST.out, if_pos (by omega)])
            go_wp2
            go_ret
            exact ⟨by rw [HD0.out]; rfl, HK.out.alloc _⟩
          · go_wp2
            go_roundw
            case rel => exact ⟨r + 1, k + 1, by go_num, by go_num, by rw [HLN.out]; omega, by omega, .inl (by omega), by rw [← HTK.out, HST.out, if_neg (by omega)], HK.out.alloc _⟩
            case measure => simp [intOf]; omega
        · have hrow := row_bad f r (by omega)
          rw [hrow] at HST
          by_cases hrn : (r : Int) + 1 = n
          · have HD0 := Lib.hid (show D = false by rw [← HD.out, ← HTK.out, HST.out, if_pos (by omega)])
            go_wp2
            go_ret
            exact ⟨by rw [HD0.out]; rfl, HK.out.alloc _⟩
          · go_wp2
            go_roundw
            case rel => exact ⟨r + 1, k + 1, by go_num, by go_num, by rw [HLN.out]; omega, by omega, .inl (by omega), by rw [← HTK.out, HST.out, if_neg (by omega)], HK.out.alloc _⟩
            case measure => simp [intOf]; omega
        · have hrow := row_bad f r (by omega)
          rw [hrow] at HST
          by_cases hrn : (r : Int) + 1 = n
          · have HD0 := Lib.hid (show D = false by rw [← HD.out, ← HTK.out, HST.out, if_pos (by omega)])
            go_wp2
            go_ret
            exact ⟨by rw [HD0.out]; rfl, HK.out.alloc _⟩
          · go_wp2
            go_roundw
            case rel => exact ⟨r + 1, k + 1, by go_num, by go_num, by rw [HLN.out]; omega, by omega, .inl (by omega), by rw [← HTK.out, HST.out, if_neg (by omega)], HK.out.alloc _⟩
            case measure => simp [intOf]; omega
        · have hrow := row_good f r hk1' hk4' hk5'
          rw [hrow] at HST
          have hz : ((0 : Int) == n) = false := by simp; omega
          go_wp2
          go_roundw
          case rel => exact ⟨0, k + 1, by go_num, by go_num, by rw [HLN.out]; omega, by omega, .inl (by omega), by rw [← HTK.out, HST.out, if_neg (by omega)], HK.out.alloc _⟩
          case measure => simp [intOf]; omega
      · have hkN : k = N := by omega
        have HDT := Lib.hid (show D = true by
          rw [← HD.out, ← hk2, List.drop_of_length_le (by rw [HLN.out]; omega)]
          rfl)
        have HK := Lib.hid hk
        clear hk hk2
        go_wp2
        go_ret
        exact ⟨by rw [HDT.out]; rfl, HK.out⟩
def QaRel (W : World) (l : List Ft) (n : Int) (r i : Value) (wr : World) : Prop := ∃ a k : Nat, r = .int .i64 a ∧ i = .int .i64 k ∧ k ≤ l.length ∧ a ≤ k ∧ fairN n a (l.drop k) = fairP l n ∧ Keep W wr
set_option maxRecDepth 100000 in
set_option maxHeartbeats 1000000 in
theorem qfair (v : Value) (l : List Ft) (n : Int) (w : World) (hv : Cells fl w v l) (hl : l.length ≤ 1000000) (hn : -9223372036854775808 ≤ n ∧ n ≤ 9223372036854775807) : Calls Try.prog 10 #[v, .int .i64 n] w fun e w' => e = .returned (.bool (fairP l n)) ∧ Keep w w' := by
  obtain ⟨a1, c1, rfl, _, _⟩ := hv.form
  have HV := Lib.hid hv
  obtain ⟨N, hN⟩ : ∃ N, l.length = N := ⟨_, rfl⟩
  have HLN := Lib.hid hN
  rw [hN] at hl ⊢
  obtain ⟨D, hD⟩ : ∃ D, fairP l n = D := ⟨_, rfl⟩
  have HD := Lib.hid hD
  rw [hD]
  clear hN hv hD
  go_enter Try.func10, Try.ntmps10
  go_wp2
  go_loopw [5, 6] (fun r i wr => QaRel w l n r i wr) (fun _ i _ => N - (intOf i).toNat)
  case atStart => exact ⟨0, 0, rfl, rfl, Nat.zero_le _, Nat.le_refl _, rfl, Keep.refl _⟩
  case round =>
    obtain ⟨r, k, rfl, rfl, hk1, hrk, hk2, hk⟩ := hrel
    rw [HLN.out] at hk1
    by_cases hlt : k < N
    · obtain ⟨g1, o1, cap1, e1, _, _, _⟩ := HV.out.ptr k (by rw [HLN.out]; exact hlt)
      simp at e1
      obtain ⟨rfl, rfl⟩ := e1
      obtain ⟨f, hx⟩ : ∃ f, l[k]? = some f := ⟨_, List.getElem?_eq_getElem (by rw [HLN.out]; exact hlt)⟩
      obtain ⟨x0, _, _⟩ := fl_of wr (HV.out.keep hk) k f hx
      have HX := Lib.hid hx
      have HK := Lib.hid hk
      have HTK := Lib.hid hk2
      clear hx hk hk2
      have HST := Lib.hid (fair_step n l k r f HX.out)
      have hcs : f.kind = 1 ∨ f.kind = 4 ∨ f.kind = 5 ∨ (f.kind ≠ 1 ∧ f.kind ≠ 4 ∧ f.kind ≠ 5) := by omega
      rcases hcs with hk' | hk' | hk' | ⟨hk1', hk4', hk5'⟩
      · have hrow := row_bad f r (by omega)
        rw [hrow] at HST
        rw [hk'] at x0
        by_cases hrn : n ≤ (r : Int) + 1
        · have HD0 := Lib.hid (show D = false by rw [← HD.out, ← HTK.out, HST.out, if_pos (by omega)])
          go_wp2
          go_ret
          exact ⟨by rw [HD0.out]; rfl, HK.out⟩
        · go_wp2
          go_roundw
          case rel => exact ⟨r + 1, k + 1, by go_num, by go_num, by rw [HLN.out]; omega, by omega, by rw [← HTK.out, HST.out, if_neg (by omega)], HK.out⟩
          case measure => simp [intOf]; omega
      · have hrow := row_bad f r (by omega)
        rw [hrow] at HST
        rw [hk'] at x0
        by_cases hrn : n ≤ (r : Int) + 1
        · have HD0 := Lib.hid (show D = false by rw [← HD.out, ← HTK.out, HST.out, if_pos (by omega)])
          go_wp2
          go_ret
          exact ⟨by rw [HD0.out]; rfl, HK.out⟩
        · go_wp2
          go_roundw
          case rel => exact ⟨r + 1, k + 1, by go_num, by go_num, by rw [HLN.out]; omega, by omega, by rw [← HTK.out, HST.out, if_neg (by omega)], HK.out⟩
          case measure => simp [intOf]; omega
      · have hrow := row_bad f r (by omega)
        rw [hrow] at HST
        rw [hk'] at x0
        by_cases hrn : n ≤ (r : Int) + 1
        · have HD0 := Lib.hid (show D = false by rw [← HD.out, ← HTK.out, HST.out, if_pos (by omega)])
          go_wp2
          go_ret
          exact ⟨by rw [HD0.out]; rfl, HK.out⟩
        · go_wp2
          go_roundw
          case rel => exact ⟨r + 1, k + 1, by go_num, by go_num, by rw [HLN.out]; omega, by omega, by rw [← HTK.out, HST.out, if_neg (by omega)], HK.out⟩
          case measure => simp [intOf]; omega
      · have hrow := row_good f r hk1' hk4' hk5'
        rw [hrow] at HST
        have b1 : (f.kind != 1) = true := by simpa using hk1'
        have b4 : (f.kind != 4) = true := by simpa using hk4'
        have b5 : (f.kind != 5) = true := by simpa using hk5'
        by_cases hrn : n ≤ 0
        · have HD0 := Lib.hid (show D = false by rw [← HD.out, ← HTK.out, HST.out, if_pos (by omega)])
          go_wp2
          go_ret
          exact ⟨by rw [HD0.out]; rfl, HK.out⟩
        · go_wp2
          go_roundw
          case rel => exact ⟨0, k + 1, by go_num, by go_num, by rw [HLN.out]; omega, by omega, by rw [← HTK.out, HST.out, if_neg (by omega)], HK.out⟩
          case measure => simp [intOf]; omega
    · have HDT := Lib.hid (show D = true by
        rw [← HD.out, ← hk2, List.drop_of_length_le (by rw [HLN.out]; omega)]
        rfl)
      have HK := Lib.hid hk
      clear hk hk2
      go_wp2
      go_ret
      exact ⟨by rw [HDT.out]; rfl, HK.out⟩
end Go.Proofs.Ytbakmfeikkpmjaa
