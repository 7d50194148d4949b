/- Proved: what the Code and Done of the document's reader of layer 4 answer, and what becomes of memory. Condition: the reader's cells are known (Qd); it has fewer than 10^9 bits. -/
import Derived.Test.YtpimecnpdpcceaaGreatBl
namespace Go.Proofs.YtpimecnpdpcceaaGreat.Bit
open Go.RowKit

theorem code_short (l : List Bool) (h : ¬ 64 ≤ noughts l) (h2 : l.length < 2 * noughts l + 1) : codeF l 0 = (0, l, 3) := by unfold codeF; rw [if_neg (by simp), if_neg h, if_pos h2]
theorem code_ok (l : List Bool) (h : ¬ 64 ≤ noughts l) (h2 : ¬ l.length < 2 * noughts l + 1) : codeF l 0 = (valL ((l.drop (noughts l + 1)).take (noughts l)) + 2 ^ noughts l - 1, l.drop (2 * noughts l + 1), 0) := by unfold codeF; rw [if_neg (by simp), if_neg h, if_neg h2]
theorem behind_num2 (k x : Nat) (hk : k < 64) (hx : x < 2 ^ k) : IntKind.u64.wrap (IntKind.u64.wrap ((x : Int) + IntKind.u64.wrap (2 ^ k)) - 1) = ((x + 2 ^ k - 1 : Nat) : Int) := by
  rw [← behind_num k x hk hx, Int.add_comm]
def QcRel (w : World) (l : List Bool) (kv : Value) (wr : World) : Prop := ∃ k : Nat, kv = .int .i64 k ∧ k ≤ 64 ∧ k ≤ noughts l ∧ w = wr

set_option maxRecDepth 100000 in
set_option maxHeartbeats 400000 in
theorem qcode_at (b : Nat) (l : List Bool) (x : Int) (w : World) (h : Qd w b l x) : Calls Tryz.prog 123 #[.pointer (some ⟨b, 0, none⟩)] w (QdPost b w (.int .u64 ((codeF l x).1 : Nat)) (codeF l x).2.1 (codeF l x).2.2) := by
  have c0 := h.c0
  have c1 := h.c1
  have fr := h.free
  have hln := h.len
  have hsl := strL_len l
  have H := Lib.hid h
  clear h
  by_cases hx : x = 0
  · subst hx
    go_enter Tryz.func123, Tryz.ntmps123
    go_wp2_with fail
    go_loopw [3] (fun kv wr => QcRel w l kv wr) (fun kv _ => 64 - (intOf kv).toNat)
    case atStart => exact ⟨0, rfl, by omega, by omega, rfl⟩
    case round =>
      obtain ⟨k, rfl, hk, hkn, rfl⟩ := hrel
      rcases noughts_get l k hkn with ⟨hg, hlt⟩ | ⟨hg, hlt⟩ | ⟨hg, hlt, hlt2⟩
      · have hkl : k < l.length := (List.getElem?_eq_some_iff.1 hg).1
        have hz : (strL l)[k]'(by rw [hsl]; exact hkl) = 48 := by rw [strL_get l k hkl, (List.getElem?_eq_some_iff.1 hg).2]; rfl
        have hge : ∀ h, (({ data := (strL l).toArray } : ByteArray)[k]'h) = 48 := fun _ => hz
        clear hz hg
        by_cases hk64 : k < 64
        · have hk64i : (k : Int) < 64 := by omega
          go_wp2
          go_roundw
          case rel => exact ⟨k + 1, by go_num, by omega, by omega, rfl⟩
          case measure => simp [intOf]; omega
        · obtain rfl : k = 64 := by omega
          have HC := Lib.hid (code_full l (by omega))
          go_wp2
          go_ret
          rw [HC.out]
          exact ⟨rfl, H.out.setErr 4, Only.setCell _ _ _ _⟩
      · have hkl : k < l.length := (List.getElem?_eq_some_iff.1 hg).1
        have hz : (strL l)[k]'(by rw [hsl]; exact hkl) = 49 := by rw [strL_get l k hkl, (List.getElem?_eq_some_iff.1 hg).2]; rfl
        have hge : ∀ h, (({ data := (strL l).toArray } : ByteArray)[k]'h) = 49 := fun _ => hz
        clear hz hg
        by_cases hk64 : k < 64
        · by_cases hs : l.length < 2 * k + 1
          · have HC := Lib.hid (code_short l (by omega) (by omega))
            clear hlt
            go_wp2
            go_ret
            rw [HC.out]
            exact ⟨rfl, H.out.setErr 3, Only.setCell _ _ _ _⟩
          · have HC := code_ok l (by omega) (by omega)
            rw [← hlt] at HC
            have HC := Lib.hid HC
            have hcm := cut_mid l (k + 1) (2 * k + 1) (by omega) (by omega) hln
            have hcf := cut_from l (2 * k + 1) (by omega) hln
            rw [show ((k + 1 : Nat) : Int) = (k : Int) + 1 by omega, show ((2 * k + 1 : Nat) : Int) = 2 * (k : Int) + 1 by omega, show 2 * k + 1 - (k + 1) = k by omega] at hcm
            rw [show ((2 * k + 1 : Nat) : Int) = 2 * (k : Int) + 1 by omega] at hcf
            have hkl2 : k ≤ (l.drop (k + 1)).length := by rw [List.length_drop]; omega
            have HV := Lib.hid (rvalue ((l.drop (k + 1)).take k) (by rw [List.length_take]; omega))
            have HN := Lib.hid (behind_num2 k _ hk64 (val_le _ k hkl2))
            have ca : ∀ u : SW w, u.1.cell? ⟨b, 0, none⟩ = some (.string ⟨(strL l).toArray⟩) := fun u => (H.out.same u.2).c0
            clear hlt hkn hkl2
            go_wp2_with fail
            refine wp_region_same (Same.refl _) (by kernel_rfl) (by kernel_rfl) ?_
            repeat (first | go_big_quiet_step (exact HV.out.at _) | quiet_step (exact HV.out.at _))
            refine wpQuiet_nil ?_
            rintro w6 ⟨⟨w7, b7⟩, rfl⟩
            have H7 := Lib.hid (H.out.same b7)
            have c07 := H7.out.c0
            have fr7 := H7.out.free
            have B7 := Lib.hid b7
            clear b7 ca c0 fr c1
            go_wp2
            go_ret
            rw [HC.out, ← HN.out]
            exact ⟨rfl, H7.out.setRest _ (by rw [List.length_drop]; omega), (Only.same B7.out).trans (Only.setCell _ _ _ _)⟩
        · obtain rfl : k = 64 := by omega
          have HC := Lib.hid (code_full l (by omega))
          clear hlt
          go_wp2
          go_ret
          rw [HC.out]
          exact ⟨rfl, H.out.setErr 4, Only.setCell _ _ _ _⟩
      · by_cases hk64 : k < 64
        · have HC := Lib.hid (code_short l (by omega) (by omega))
          have hkl : l.length = k := by omega
          have hkl2 : ¬ k < l.length := by omega
          have hs : l.length < 2 * k + 1 := by omega
          clear hlt hg hlt2 hkl
          go_wp2
          go_ret
          rw [HC.out]
          exact ⟨rfl, H.out.setErr 3, Only.setCell _ _ _ _⟩
        · obtain rfl : k = 64 := by omega
          have HC := Lib.hid (code_full l (by omega))
          have hkl2 : ¬ 64 < l.length := by omega
          clear hlt hg hlt2
          go_wp2
          go_ret
          rw [HC.out]
          exact ⟨rfl, H.out.setErr 4, Only.setCell _ _ _ _⟩
  · have HC := Lib.hid (code_err l x hx)
    go_enter Tryz.func123, Tryz.ntmps123
    go_wp2
    go_ret
    rw [HC.out]
    exact ⟨rfl, H.out, Only.refl _ _⟩

set_option maxRecDepth 100000 in
theorem qdone_at (b : Nat) (l : List Bool) (x : Int) (w : World) (h : Qd w b l x) : Calls Tryz.prog 98 #[.pointer (some ⟨b, 0, none⟩)] w fun e w' => e = .returned (.int .i64 (doneF l x)) ∧ Same w w' := by
  have c0 := h.c0
  have c1 := h.c1
  have hln := h.len
  have hsl := strL_len l
  clear h
  unfold doneF
  by_cases hx : x = 0
  · subst hx
    rw [if_neg (by simp)]
    by_cases h8 : 8 ≤ l.length
    · rw [if_pos (.inl h8)]
      go_enter Tryz.func98, Tryz.ntmps98
      go_wp2
      go_ret
      exact ⟨rfl, Same.refl _⟩
    · have HV := Lib.hid (rvalue l (by omega))
      have h8i : ¬ (8 : Int) ≤ (l.length : Int) := by omega
      by_cases hv : valL l = 0
      · rw [if_neg (by omega)]
        go_enter Tryz.func98, Tryz.ntmps98
        go_wp2_with fail
        refine (HV.out _).mono ?_
        rintro e w1 ⟨rfl, hq⟩
        go_wp2
        go_ret
        exact ⟨rfl, hq⟩
      · rw [if_pos (.inr hv)]
        have hvi : (((valL l : Nat) : Int) != 0) = true := by simp; exact hv
        go_enter Tryz.func98, Tryz.ntmps98
        go_wp2_with fail
        refine (HV.out _).mono ?_
        rintro e w1 ⟨rfl, hq⟩
        go_wp2
        go_ret
        exact ⟨rfl, hq⟩
  · rw [if_pos hx]
    go_enter Tryz.func98, Tryz.ntmps98
    go_wp2
    go_ret
    exact ⟨rfl, Same.refl _⟩
end Go.Proofs.YtpimecnpdpcceaaGreat.Bit
