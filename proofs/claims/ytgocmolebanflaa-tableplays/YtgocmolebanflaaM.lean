/- Proved: what Compare of prefix and of the document answer. Condition: addresses have sixteen bytes; numbers fit. -/
import Derived.Test.YtgocmolebanflaaK
import Derived.Test.YtgocmolebanflaaP
import Derived.Lib.BytesEntry
import Derived.Lib.Bytealg
namespace Go.Proofs.Ytgocmolebanflaa
open Go.RowKit

theorem lex_bytes : ∀ l m : List UInt8, l.length = m.length → Lib.compareBytes l m = X.lex l m
  | [], [], _ => rfl
  | [], _ :: _, h => by simp at h
  | _ :: _, [], h => by simp at h
  | c :: l, d :: m, h => by
    have ih := lex_bytes l m (by simpa using h)
    unfold Lib.compareBytes X.lex
    rw [ih]
    simp only [UInt8.lt_iff_toNat_lt]
theorem lex_drop (l m : List UInt8) (i : Nat) (h1 : i < l.length) (h2 : i < m.length) : X.lex (l.drop i) (m.drop i) = if (l.getD i 0).toNat < (m.getD i 0).toNat then -1 else if (m.getD i 0).toNat < (l.getD i 0).toNat then 1 else X.lex (l.drop (i + 1)) (m.drop (i + 1)) := by
  rw [List.drop_eq_getElem_cons h1, List.drop_eq_getElem_cons h2, X.lex]
  simp [h1, h2]
theorem lex_end (l m : List UInt8) (h1 : l.length = 16) : X.lex (l.drop 16) (m.drop 16) = 0 := by
  rw [List.drop_eq_nil_of_le (by omega)]
  simp [X.lex]
theorem lex_fits (l m : List UInt8) : X.lex l m = -1 ∨ X.lex l m = 0 ∨ X.lex l m = 1 := by
  induction l generalizing m with
  | nil => simp [X.lex]
  | cons c l ih =>
    cases m with
    | nil => simp [X.lex]
    | cons d m =>
      have := ih m
      unfold X.lex
      split
      · simp
      · split <;> simp_all

def cmpP (a b : Px) : Int := if a.six = b.six then (if X.lex a.addr b.addr = 0 then X.cmpI a.len b.len else X.lex a.addr b.addr) else if b.six then -1 else 1

theorem bytesOf_map : ∀ l : List UInt8, Lib.bytesOf (l.map fun c => (c.toNat : Int)) = l
  | [] => rfl
  | c :: l => by
    have := bytesOf_map l
    simp only [Lib.bytesOf, List.map_cons] at this ⊢
    rw [this]
    simp
theorem cells_bytes {w : World} {b : Nat} {p : Px} (h : At w b p) : (Extern.Bytes.bytesOf (.slice (some ⟨b, 1, none⟩) 16 16)).run Try.prog w = .ok ⟨p.addr.toArray⟩ w := by
  have hl := h.len
  have hx := Lib.run_loadBytesX (P := Try.prog) w (p.addr.map fun c => (c.toNat : Int)) ⟨b, 1, none⟩ .empty (fun j x hx => by
    have hj : j < p.addr.length := by have := (List.getElem?_eq_some_iff.1 hx).1; simpa using this
    have hadd : (⟨b, 1, none⟩ : Addr).add j = ⟨b, 1 + j, none⟩ := by unfold Addr.add; split <;> simp_all
    rw [hadd, h.byte j (by omega)]
    simp [hj] at hx
    simp [hj, hx])
  rw [bytesOf_map, List.length_map, hl] at hx
  unfold Extern.Bytes.bytesOf
  rw [hx]
  simp
theorem slice_addr (b : Nat) (w : World) : (Instr.sliceAt 23 (.pointer (some ⟨b, 1, none⟩)) none none none).run Try.prog w = .ok (.slice (some ⟨b, 1, none⟩) 16 16) w := by
  have hn : Try.prog.arrayLen 23 = 16 := by kernel_rfl
  have he : Try.prog.elem 23 = 5 := by kernel_rfl
  have := run_sliceAt_array_all (P := Try.prog) w 23 ⟨b, 1, none⟩ (by kernel_rfl)
  rw [this, he, Try.sizeOf5 w]
  simp [slicedAt, hn, Addr.add]
theorem bcompare (a b : Px) (i j : Nat) (w : World) (hA : At w i a) (hB : At w j b) : Calls Try.prog 67 #[.slice (some ⟨i, 1, none⟩) 16 16, .slice (some ⟨j, 1, none⟩) 16 16] w fun e w' => e = .returned (.int .i64 (X.lex a.addr b.addr)) ∧ w' = w := by
  have h1 := cells_bytes hA
  have h2 := cells_bytes hB
  have hc : (Extern.BytealgCompare.compare #[.slice (some ⟨i, 1, none⟩) 16 16, .slice (some ⟨j, 1, none⟩) 16 16]).run Try.prog w = .ok (.int .i64 (X.lex a.addr b.addr)) w := by
    change Sem.run Try.prog (do pure (goInt (Extern.BytealgCompare.cmp (← Extern.Bytes.bytesOf (.slice (some ⟨i, 1, none⟩) 16 16)) (← Extern.Bytes.bytesOf (.slice (some ⟨j, 1, none⟩) 16 16))))) w = _
    simp only [Sem.run_bind, h1, h2, Sem.run_pure, Result.andThen]
    rw [Lib.cmp_eq]
    simp only
    rw [lex_bytes _ _ (by rw [hA.len, hB.len])]
    rfl
  go_enter Try.func67, Try.ntmps67
  go_wp2
  rw [run_callFunc_extern Try.func77 (by kernel_rfl) (by kernel_rfl) (by kernel_rfl) (e := Extern.BytealgCompare.compare) (by kernel_rfl), hc]
  simp only [Result.andThen]
  rw [Oper.upon_value]
  go_wp2
  go_ret
  exact ⟨rfl, rfl⟩
theorem isnan (x : Int) (w : World) : Calls Try.prog 78 #[.int .i64 x] w fun e w' => e = .returned (.bool false) ∧ w' = w := by
  have hx : (x != x) = false := by simp
  go_enter Try.func78, Try.ntmps78
  go_wp2
  go_ret
  exact ⟨rfl, rfl⟩
theorem icompare (x y : Int) : Gives Try.prog 68 #[.int .i64 x, .int .i64 y] (.int .i64 (X.cmpI x y)) := by
  refine Gives.of_same fun w => ?_
  unfold X.cmpI
  by_cases h1 : x < y
  · go_enter Try.func68, Try.ntmps68
    go_wp2_with fail
    refine (isnan x w).mono ?_
    rintro e w ⟨rfl, rfl⟩
    go_wp2_with fail
    refine (isnan y _).mono ?_
    rintro e w ⟨rfl, rfl⟩
    go_wp2
    go_ret
    exact ⟨rfl, rfl⟩
  · by_cases h2 : y < x
    · go_enter Try.func68, Try.ntmps68
      go_wp2_with fail
      refine (isnan x w).mono ?_
      rintro e w ⟨rfl, rfl⟩
      go_wp2_with fail
      refine (isnan y _).mono ?_
      rintro e w ⟨rfl, rfl⟩
      go_wp2
      go_ret
      exact ⟨rfl, rfl⟩
    · go_enter Try.func68, Try.ntmps68
      go_wp2_with fail
      refine (isnan x w).mono ?_
      rintro e w ⟨rfl, rfl⟩
      go_wp2_with fail
      refine (isnan y _).mono ?_
      rintro e w ⟨rfl, rfl⟩
      go_wp2
      go_ret
      exact ⟨rfl, rfl⟩

set_option maxRecDepth 100000 in
theorem compare (a b : Px) (ha : a.addr.length = 16) (hb : b.addr.length = 16) : Gives Try.prog 50 #[.agg (pc a), .agg (pc b)] (.int .i64 (cmpP a b)) := by
  intro w
  obtain ⟨hA, hB, hS⟩ := two_at w a b ha hb
  obtain ⟨Z, hZ⟩ : ∃ Z, cmpP a b = Z := ⟨_, rfl⟩
  rw [hZ]
  have HZ := Lib.hid hZ
  clear hZ
  obtain ⟨n, hn⟩ : ∃ n, n = 16 := ⟨16, rfl⟩
  have hsz : ∀ w, (Go.sizeOf 23).run Try.prog w = .ok n w := fun w => by rw [hn]; exact Try.sizeOf23 w
  have hn0 : ¬ n = 0 := by omega
  have h1 := hA.six
  have h2 := hB.six
  have HA := Lib.hid hA
  have HB := Lib.hid hB
  have HS := Lib.hid hS
  have HN := Lib.hid hn
  clear hA hB hS hn
  by_cases hs : a.six = b.six
  · rw [← hs] at h2
    have Hic := Lib.hid (icompare a.len b.len)
    have HE := Lib.hid (show Z = if X.lex a.addr b.addr = 0 then X.cmpI a.len b.len else X.lex a.addr b.addr by rw [← HZ.out, cmpP, if_pos hs])
    have hf := lex_fits a.addr b.addr
    have hsl := slice_addr
    have Hbc : ∀ u : SW ((w.alloc (.cells (pc a) 25)).alloc (.cells (pc b) 25)), Calls Try.prog 67 #[.slice (some ⟨w.heap.size, 1, none⟩) 16 16, .slice (some ⟨w.heap.size + 1, 1, none⟩) 16 16] u.1 fun e w'' => e = .returned (.int .i64 (X.lex a.addr b.addr)) ∧ ∃ m : SW ((w.alloc (.cells (pc a) 25)).alloc (.cells (pc b) 25)), w'' = m.1 :=
      fun u => (bcompare a b _ _ u.1 (HA.out.mono u.2) (HB.out.mono u.2)).mono fun e w' ⟨he, hw⟩ => ⟨he, u, hw⟩
    have HBC := Lib.hid Hbc
    clear Hbc HZ hs
    generalize X.lex a.addr b.addr = L at *
    go_enter Try.func50, Try.ntmps50
    go_wp2_with fail
    refine wp_region_same (Same.refl _) (by kernel_rfl) (by kernel_rfl) ?_
    repeat (first | go_big_quiet_step (exact HBC.out _) | quiet_step (exact HBC.out _))
    refine wpQuiet_nil ?_
    rintro w6 ⟨⟨w7, b7⟩, rfl⟩
    have e1 := (HA.out.mono b7).bits
    have e2 := (HB.out.mono b7).bits
    have HS7 := Lib.hid (HS.out.trans b7)
    clear HA HB HS b7 h1 h2 HBC hsl
    by_cases h0 : L = 0
    · subst h0
      go_wp2_with fail
      refine (Hic.out _).mono ?_
      rintro e w8 ⟨rfl, b8⟩
      go_wp2
      go_ret
      refine ⟨?_, HS7.out.trans b8⟩
      rw [HE.out, if_pos trivial]
      rfl
    · go_wp2
      go_ret
      refine ⟨?_, HS7.out⟩
      rw [HE.out, if_neg h0]
      rfl
  · have hs2 : (a.six != b.six) = true := by simpa using hs
    have HE := Lib.hid (show Z = if b.six then -1 else 1 by rw [← HZ.out, cmpP, if_neg hs])
    cases hsa : a.six <;> cases hsb : b.six <;> rw [hsa, hsb] at hs2 <;> simp at hs2 <;> rw [hsa] at h1 <;> rw [hsb] at h2 HE <;> clear hs2
    all_goals
      go_enter Try.func50, Try.ntmps50
      go_wp2
      go_ret
      exact ⟨by rw [HE.out]; rfl, HS.out⟩

def QMRel (W : World) (l m : List UInt8) (i : Value) (wr : World) : Prop :=
  ∃ k : Nat, i = .int .i64 k ∧ k ≤ 16 ∧ X.lex (l.drop k) (m.drop k) = X.lex l m ∧ Same W wr

set_option maxRecDepth 100000 in
theorem qcompare (a b : Px) (ha : a.addr.length = 16) (hb : b.addr.length = 16) : Gives Try.prog 33 #[.agg (pc a), .agg (pc b)] (.int .i64 (cmpP a b)) := by
  intro w
  obtain ⟨hA, hB, hS⟩ := two_at w a b ha hb
  obtain ⟨Z, hZ⟩ : ∃ Z, cmpP a b = Z := ⟨_, rfl⟩
  rw [hZ]
  have HZ := Lib.hid hZ
  clear hZ
  obtain ⟨n, hn⟩ : ∃ n, n = 16 := ⟨16, rfl⟩
  have hsz : ∀ w, (Go.sizeOf 23).run Try.prog w = .ok n w := fun w => by rw [hn]; exact Try.sizeOf23 w
  have hn0 : ¬ n = 0 := by omega
  have h1 := hA.six
  have h2 := hB.six
  have HA := Lib.hid hA
  have HB := Lib.hid hB
  have HS := Lib.hid hS
  have HN := Lib.hid hn
  clear hA hB hS hn
  by_cases hs : a.six = b.six
  · rw [← hs] at h2
    have HE := Lib.hid (show Z = if X.lex a.addr b.addr = 0 then X.cmpI a.len b.len else X.lex a.addr b.addr by rw [← HZ.out, cmpP, if_pos hs])
    clear HZ hs
    go_enter Try.func33, Try.ntmps33
    go_wp2_with fail
    generalize (w.alloc (.cells (pc a) 25)).alloc (.cells (pc b) 25) = w2 at *
    go_loopw [5] (fun i wr => QMRel w2 a.addr b.addr i wr) (fun i _ => 16 - (intOf i).toNat)
    case atStart => exact ⟨0, rfl, by omega, rfl, Same.refl _⟩
    case round =>
      obtain ⟨k, rfl, hk, hcm, hsame⟩ := hrel
      have HC := Lib.hid hcm
      have HAr := Lib.hid (HA.out.mono hsame)
      have HBr := Lib.hid (HB.out.mono hsame)
      have HSr := Lib.hid (HS.out.trans hsame)
      have HSk := Lib.hid hsame
      clear hcm hsame HA HB h1 h2
      by_cases hk2 : k < 16
      · have da : ∀ u : SW wr, u.1.cell? ⟨w.heap.size, 1 + k, none⟩ = some (.int .u8 ((a.addr.getD k 0).toNat : Nat)) := fun u => (HAr.out.mono u.2).byte k hk2
        have db : ∀ u : SW wr, u.1.cell? ⟨w.heap.size + 1, 1 + k, none⟩ = some (.int .u8 ((b.addr.getD k 0).toNat : Nat)) := fun u => (HBr.out.mono u.2).byte k hk2
        have hc : (a.addr.getD k 0).toNat < 256 := UInt8.toNat_lt _
        have hd : (b.addr.getD k 0).toNat < 256 := UInt8.toNat_lt _
        have HD := Lib.hid (lex_drop a.addr b.addr k (by omega) (by omega))
        generalize (a.addr.getD k 0).toNat = c at *
        generalize (b.addr.getD k 0).toNat = d at *
        by_cases hlt : c < d
        · go_wp2_with fail
          refine wp_region_same (Same.refl _) (by kernel_rfl) (by kernel_rfl) ?_
          repeat (first | go_big_quiet_step (fail) | quiet_step (fail))
          refine wpQuiet_nil ?_
          rintro w6 ⟨⟨w7, b7⟩, rfl⟩
          go_wp2
          go_ret
          refine ⟨?_, HSr.out.trans b7⟩
          have := HC.out
          rw [HD.out, if_pos hlt] at this
          rw [HE.out, ← this]
          rfl
        · by_cases hgt : d < c
          · go_wp2_with fail
            refine wp_region_same (Same.refl _) (by kernel_rfl) (by kernel_rfl) ?_
            repeat (first | go_big_quiet_step (fail) | quiet_step (fail))
            refine wpQuiet_nil ?_
            rintro w6 ⟨⟨w7, b7⟩, rfl⟩
            have da6 : ∀ u : SW w6, u.1.cell? ⟨w.heap.size, 1 + k, none⟩ = some (.int .u8 (c : Nat)) := fun u => da ⟨u.1, b7.trans u.2⟩
            have db6 : ∀ u : SW w6, u.1.cell? ⟨w.heap.size + 1, 1 + k, none⟩ = some (.int .u8 (d : Nat)) := fun u => db ⟨u.1, b7.trans u.2⟩
            clear da db
            go_wp2_with fail
            refine wp_region_same (Same.refl _) (by kernel_rfl) (by kernel_rfl) ?_
            repeat (first | go_big_quiet_step (fail) | quiet_step (fail))
            refine wpQuiet_nil ?_
            rintro w8 ⟨⟨w9, b9⟩, rfl⟩
            go_wp2
            go_ret
            refine ⟨?_, (HSr.out.trans b7).trans b9⟩
            have := HC.out
            rw [HD.out, if_neg hlt, if_pos hgt] at this
            rw [HE.out, ← this]
            rfl
          · go_wp2_with fail
            refine wp_region_same (Same.refl _) (by kernel_rfl) (by kernel_rfl) ?_
            repeat (first | go_big_quiet_step (fail) | quiet_step (fail))
            refine wpQuiet_nil ?_
            rintro w6 ⟨⟨w7, b7⟩, rfl⟩
            have da6 : ∀ u : SW w6, u.1.cell? ⟨w.heap.size, 1 + k, none⟩ = some (.int .u8 (c : Nat)) := fun u => da ⟨u.1, b7.trans u.2⟩
            have db6 : ∀ u : SW w6, u.1.cell? ⟨w.heap.size + 1, 1 + k, none⟩ = some (.int .u8 (d : Nat)) := fun u => db ⟨u.1, b7.trans u.2⟩
            clear da db
            go_wp2_with fail
            refine wp_region_same (Same.refl _) (by kernel_rfl) (by kernel_rfl) ?_
            repeat (first | go_big_quiet_step (fail) | quiet_step (fail))
            refine wpQuiet_nil ?_
            rintro w8 ⟨⟨w9, b9⟩, rfl⟩
            go_wp2
            go_roundw
            case rel =>
              refine ⟨k + 1, by go_num, by omega, ?_, (HSk.out.trans b7).trans b9⟩
              have := HC.out
              rw [HD.out, if_neg hlt, if_neg hgt] at this
              exact this
            case measure => simp [intOf]; omega
      · have e1 := HAr.out.bits
        have e2 := HBr.out.bits
        obtain rfl : k = 16 := by omega
        have HE2 := Lib.hid (show Z = X.cmpI a.len b.len by rw [HE.out, if_pos (by rw [← HC.out]; exact lex_end _ _ ha)])
        by_cases hlt : a.len < b.len
        · go_wp2
          go_ret
          refine ⟨?_, HSr.out⟩
          rw [HE2.out, X.cmpI, if_pos hlt]
          rfl
        · by_cases hgt : b.len < a.len
          · go_wp2
            go_ret
            refine ⟨?_, HSr.out⟩
            rw [HE2.out, X.cmpI, if_neg (by omega), if_pos hgt]
            rfl
          · go_wp2
            go_ret
            refine ⟨?_, HSr.out⟩
            rw [HE2.out, X.cmpI, if_neg (by omega), if_neg (by omega)]
            rfl
  · have hs2 : (a.six != b.six) = true := by simpa using hs
    have HE := Lib.hid (show Z = if b.six then -1 else 1 by rw [← HZ.out, cmpP, if_neg hs])
    cases hsa : a.six <;> cases hsb : b.six <;> rw [hsa, hsb] at hs2 <;> simp at hs2 <;> rw [hsa] at h1 <;> rw [hsb] at h2 HE <;> clear hs2
    all_goals
      go_enter Try.func33, Try.ntmps33
      go_wp2
      go_ret
      exact ⟨by rw [HE.out]; rfl, HS.out⟩
end Go.Proofs.Ytgocmolebanflaa
