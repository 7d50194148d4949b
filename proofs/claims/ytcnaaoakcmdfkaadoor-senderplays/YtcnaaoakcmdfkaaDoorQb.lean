/- Proved: what the document's Same, Merge and Behind of maps of chunks answer, lists of bools or of ints in memory. Condition: a list has at most 256 bools, or a million ints; a text at most a million bytes. -/
import Derived.Test.YtcnaaoakcmdfkaaDoorQa
import Derived.Deep.QuietTactic
import Derived.BigQuiet
namespace Go.Proofs.YtcnaaoakcmdfkaaDoor
open Go.RowKit

def EgRel {α : Type} (W : World) (l m : List α) (i : Value) (wr : World) : Prop := ∃ k : Nat, i = .int .i64 k ∧ k ≤ l.length ∧ l.take k = m.take k ∧ Keep W wr
theorem tmod_bit (y k : Nat) : ((y : Int) / 2 ^ k).tmod 2 = ((y / 2 ^ k % 2 : Nat) : Int) := by
  have e : ((y : Int) / 2 ^ k) = ((y / 2 ^ k : Nat) : Int) := by simp
  rw [e]
  generalize y / 2 ^ k = x
  rw [Int.tmod_eq_emod_of_nonneg (by omega)]
  omega
theorem flat_be (l : List Bool) : flat be l = l.map Value.bool := by
  induction l with
  | nil => rfl
  | cons c l ih => rw [flat_cons, ih]; rfl
theorem Own.ptr {α : Type} {t k B : Nat} {enc : α → List Value} {w : World} {v : Value} {l : List α} (h : Own t k enc B w v l) (hn : 0 < l.length) : ∃ g cap, v = .slice (some ⟨g, 0, none⟩) l.length cap ∧ B ≤ g ∧ g < w.heap.size := by
  rcases h.2 with ⟨_, h2⟩ | ⟨g, cap, cur, hv, hb, hg, _⟩
  · omega
  · exact ⟨g, cap, hv, hb, block_lt hg⟩
theorem Own.boolAt {B g n cap : Nat} {w : World} {l : List Bool} (h : OwnO B w (.slice (some ⟨g, 0, none⟩) n cap) l) (hn : n = l.length) (j : Nat) (hj : j < l.length) : w.cell? ⟨g, j, none⟩ = some (.bool (l.getD j false)) := by
  subst hn
  unfold OwnO Own at h
  rw [flat_be] at h
  have := World.ownsRow.cellAt h j (by omega)
  rw [this, List.getElem?_map, get_of_getD hj]
  rfl
theorem Own.freeAt {B g n cap : Nat} {w : World} {l : List Bool} (h : OwnO B w (.slice (some ⟨g, 0, none⟩) n cap) l) (hn : n = l.length) (j : Nat) : w.frozen? ⟨g, j, none⟩ = false := by
  subst hn
  exact World.ownsRow.frozenAt h j
theorem Own.put {B g n cap : Nat} {w : World} {l : List Bool} (h : OwnO B w (.slice (some ⟨g, 0, none⟩) n cap) l) (hn : n = l.length) (j : Nat) : OwnO B (w.setCell ⟨g, j, none⟩ (.bool true)) (.slice (some ⟨g, 0, none⟩) n cap) (l.set j true) := by
  subst hn
  unfold OwnO Own at *
  rw [flat_be] at *
  have := (World.ownsRow.stored h j (.bool true)).1
  rw [List.length_set, List.map_set]
  exact this
def QgRel (w : World) (l : List Bool) (a : Int) (s : List UInt8) (v cv iv : Value) (wr : World) : Prop :=
  ∃ k : Nat, iv = .int .i64 k ∧ cv = .int .i64 (newK l a s k : Nat) ∧ k ≤ l.length ∧ OwnO w.heap.size wr v (merK l a s k) ∧ Keep w wr

set_option maxRecDepth 100000 in
set_option maxHeartbeats 1000000 in
theorem qmerge (v : Value) (l : List Bool) (a : Int) (s : List UInt8) (w : World) (h : CelO w v l) (hf : l.length ≤ 256) (h1 : -9223372036854775808 ≤ a) (h2 : a < 9223372036854775808) (hs : s.length ≤ 1000000) : Calls Tryd.prog 35 #[v, .int .i64 a, .string ⟨s.toArray⟩] w fun e w' => ∃ u, e = .returned (.tuple #[u, .int .i64 (newN l a s : Nat)]) ∧ OwnO w.heap.size w' u (merL l a s) ∧ Keep w w' := by
  obtain ⟨q, cap, rfl, _, _⟩ := h.form
  have HC := Lib.hid h
  clear h
  obtain ⟨N, hN⟩ : ∃ N, l.length = N := ⟨_, rfl⟩
  have HN := Lib.hid hN
  rw [hN] at hf HC ⊢
  clear hN
  have HF := Lib.hid hf
  go_enter Tryd.func35, Tryd.ntmps35
  go_wp2_with (at_builtin; refine wp_app elO rfl _ _ rfl w.heap.size _ _ [] l rfl rfl (Own.made _ _ (Nat.le_refl _)) (HC.out.keep ((Keep.refl _).alloc _)) ?q1 ?q2 ?q3 ?_)
  case q1 => rw [HN.out]; simp; omega
  case q2 => rw [HN.out]; simp; omega
  case q3 => simp
  intro u w1 hO1 hG
  have HK1 := Lib.hid (Own.grown (Own.made (t := 4) (k := 1) (enc := be) w.heap.size w (Nat.le_refl _)) ((Keep.refl w).alloc (.cells #[] 4)) (Nat.le_refl _) hG)
  have H0 := Lib.hid (show QgRel w l a s u (.int .i64 0) (.int .i64 0) w1 from ⟨0, rfl, rfl, Nat.zero_le _, by rw [merK_zero]; exact hO1, HK1.out⟩)
  clear hO1 hG HK1
  go_wp2
  go_loopw [9, 10] (fun c i wr => QgRel w l a s u c i wr) (fun _ i _ => N - (intOf i).toNat)
  case atStart => exact H0.out
  case round =>
    obtain ⟨k, rfl, rfl, hk, hO, hK⟩ := hrel
    rw [HN.out] at hk
    have HK := Lib.hid hK
    have hnk := newK_le l a s k
    have HNK := Lib.hid (newK_succ l a s k)
    by_cases hlt : k < N
    · have hmlen : (merK l a s k).length = N := by rw [merK_len, HN.out]
      obtain ⟨g, cap2, e, hBg, _⟩ := hO.ptr (by rw [hmlen]; omega)
      rw [hmlen] at e
      subst e
      have hcell := hO.boolAt hmlen.symm k (by rw [hmlen]; exact hlt)
      rw [merK_get l a s k k (by rw [HN.out]; exact hlt), decide_eq_false (Nat.lt_irrefl k), Bool.false_and, Bool.or_false] at hcell
      have hfree := hO.freeAt hmlen.symm k
      have HO := Lib.hid hO
      have HP : Hid (∀ j, OwnO w.heap.size (wr.setCell ⟨g, j, none⟩ (.bool true)) (.slice (some ⟨g, 0, none⟩) N cap2) ((merK l a s k).set j true)) := Lib.hid fun j => hO.put hmlen.symm j
      clear hO hK hmlen H0
      obtain ⟨A, hA⟩ : ∃ A, wrap64 (wrap64 ((k : Int) - a) - 1) = A := ⟨_, rfl⟩
      rcases Int.lt_trichotomy (k : Int) a with hc | hc | hc
      · have ht : toldB a s k = true := by rw [toldB_low a s k (by omega)]; exact decide_eq_true hc
        have e1 : decide ((k : Int) < a) = true := decide_eq_true hc
        have e2 : decide ((k : Int) > a) = false := decide_eq_false (by omega)
        clear h1 h2
        have HE := Lib.hid (merK_yes l a s k (by rw [HN.out]; exact hlt) ht)
        cases hg : l.getD k false
        · have HN2 := Lib.hid (show newK l a s (k + 1) = newK l a s k + 1 by rw [HNK.out, ht, hg]; rfl)
          have HS := Lib.hid (HP.out k)
          rw [show (merK l a s k).set k true = merK l a s (k + 1) by rw [HE.out]; unfold setL; rw [if_pos (by omega), Int.toNat_natCast]] at HS
          rw [hg] at hcell
          clear hg ht
          generalize newK l a s k = c at *
          go_wp2
          go_roundw
          case rel => exact ⟨k + 1, by go_num, by rw [HN2.out]; go_num, by rw [HN.out]; omega, HS.out, HK.out.setCell _ _ _ hBg⟩
          case measure => simp [intOf]; omega
        · have HN2 := Lib.hid (show newK l a s (k + 1) = newK l a s k by rw [HNK.out, hg]; simp)
          have HS := Lib.hid (show merK l a s (k + 1) = merK l a s k by rw [HE.out]; exact setL_no _ _ (by rw [setB_merK l a s k (by rw [HN.out]; exact hlt), hg]; rfl))
          rw [hg] at hcell
          clear hg ht
          generalize newK l a s k = c at *
          go_wp2
          go_roundw
          case rel => exact ⟨k + 1, by go_num, by rw [HN2.out], by rw [HN.out]; omega, by rw [HS.out]; exact HO.out, HK.out⟩
          case measure => simp [intOf]; omega
      · have ht : toldB a s k = false := by rw [toldB_low a s k (by omega)]; exact decide_eq_false (by omega)
        have e1 : decide ((k : Int) < a) = false := decide_eq_false (by omega)
        have e2 : decide ((k : Int) > a) = false := decide_eq_false (by omega)
        clear h1 h2
        have HE := Lib.hid (merK_no l a s k ht)
        have HN2 := Lib.hid (show newK l a s (k + 1) = newK l a s k by rw [HNK.out, ht]; simp)
        clear ht
        generalize newK l a s k = c at *
        go_wp2
        go_roundw
        case rel => exact ⟨k + 1, by go_num, by rw [HN2.out], by rw [HN.out]; omega, by rw [HE.out]; exact HO.out, HK.out⟩
        case measure => simp [intOf]; omega
      · have e1 : decide ((k : Int) < a) = false := decide_eq_false (by omega)
        have e2 : decide ((k : Int) > a) = true := decide_eq_true (by omega)
        obtain ⟨z, hz⟩ := Int.eq_ofNat_of_zero_le (show 0 ≤ (k : Int) - a - 1 by omega)
        have hz2 : (k : Int) - a - 1 = z := hz
        clear hz
        by_cases hin : z / 8 < s.length
        · obtain rfl : (z : Int) = A := by unfold wrap64 at hA; omega
          have e3 : decide ((z : Int) ≥ 0) = true := decide_eq_true (by omega)
          have e4 : decide ((z : Int) < 8 * (s.length : Int)) = true := decide_eq_true (by omega)
          have hT := toldB_in a s k z (by omega) hz2 hin
          have hix := index_byte s (z / 8) hin .i64 (.inr rfl)
          rw [show ((z / 8 : Nat) : Int) = (z : Int) / 8 by omega] at hix
          have hcc := (s[z / 8]'hin).toNat_lt
          have hbd := bit_div (s[z / 8]'hin).toNat (z % 8)
          generalize (s[z / 8]'hin).toNat = y at *
          have hsl : s.length ≤ 1000000 := hs
          clear h1 h2 hz2 hc
          cases hb : y.testBit (z % 8)
          · have ht : toldB a s k = false := by rw [hT, hb]
            have e5 : (((y : Int) / 2 ^ (z % 8)).tmod 2 == 1) = false := by
              rw [hb] at hbd
              rw [tmod_bit, ← hbd]; rfl
            clear hT hb hbd
            have HE := Lib.hid (merK_no l a s k ht)
            have HN2 := Lib.hid (show newK l a s (k + 1) = newK l a s k by rw [HNK.out, ht]; simp)
            clear ht
            generalize newK l a s k = c at *
            go_wp2
            go_roundw
            case rel => exact ⟨k + 1, by go_num, by rw [HN2.out], by rw [HN.out]; omega, by rw [HE.out]; exact HO.out, HK.out⟩
            case measure => simp [intOf]; omega
          · have ht : toldB a s k = true := by rw [hT, hb]
            have e5 : (((y : Int) / 2 ^ (z % 8)).tmod 2 == 1) = true := by
              rw [hb] at hbd
              rw [tmod_bit, ← hbd]; rfl
            clear hT hb hbd
            have HE := Lib.hid (merK_yes l a s k (by rw [HN.out]; exact hlt) ht)
            cases hg : l.getD k false
            · have HN2 := Lib.hid (show newK l a s (k + 1) = newK l a s k + 1 by rw [HNK.out, ht, hg]; rfl)
              have HS := Lib.hid (HP.out k)
              rw [show (merK l a s k).set k true = merK l a s (k + 1) by rw [HE.out]; unfold setL; rw [if_pos (by omega), Int.toNat_natCast]] at HS
              rw [hg] at hcell
              clear hg ht
              generalize newK l a s k = c at *
              go_wp2
              go_roundw
              case rel => exact ⟨k + 1, by go_num, by rw [HN2.out]; go_num, by rw [HN.out]; omega, HS.out, HK.out.setCell _ _ _ hBg⟩
              case measure => simp [intOf]; omega
            · have HN2 := Lib.hid (show newK l a s (k + 1) = newK l a s k by rw [HNK.out, hg]; simp)
              have HS := Lib.hid (show merK l a s (k + 1) = merK l a s k by rw [HE.out]; exact setL_no _ _ (by rw [setB_merK l a s k (by rw [HN.out]; exact hlt), hg]; rfl))
              rw [hg] at hcell
              clear hg ht
              generalize newK l a s k = c at *
              go_wp2
              go_roundw
              case rel => exact ⟨k + 1, by go_num, by rw [HN2.out], by rw [HN.out]; omega, by rw [HS.out]; exact HO.out, HK.out⟩
              case measure => simp [intOf]; omega
        · have ht : toldB a s k = false := toldB_out a s k z (by omega) hz2 (by omega)
          by_cases h0 : A ≥ 0
          · have e3 : decide (A ≥ 0) = true := decide_eq_true h0
            have e4 : decide (A < 8 * (s.length : Int)) = false := decide_eq_false (by unfold wrap64 at hA; omega)
            clear h1 h2 hz2 hc
            have HE := Lib.hid (merK_no l a s k ht)
            have HN2 := Lib.hid (show newK l a s (k + 1) = newK l a s k by rw [HNK.out, ht]; simp)
            clear ht
            generalize newK l a s k = c at *
            go_wp2
            go_roundw
            case rel => exact ⟨k + 1, by go_num, by rw [HN2.out], by rw [HN.out]; omega, by rw [HE.out]; exact HO.out, HK.out⟩
            case measure => simp [intOf]; omega
          · have e3 : decide (A ≥ 0) = false := decide_eq_false h0
            clear h1 h2 hz2 hc
            have HE := Lib.hid (merK_no l a s k ht)
            have HN2 := Lib.hid (show newK l a s (k + 1) = newK l a s k by rw [HNK.out, ht]; simp)
            clear ht
            generalize newK l a s k = c at *
            go_wp2
            go_roundw
            case rel => exact ⟨k + 1, by go_num, by rw [HN2.out], by rw [HN.out]; omega, by rw [HE.out]; exact HO.out, HK.out⟩
            case measure => simp [intOf]; omega
    · obtain rfl : k = N := by omega
      have HO := Lib.hid hO
      have HE := Lib.hid (show merL l a s = merK l a s k by unfold merL; rw [HN.out])
      have HE2 := Lib.hid (show newN l a s = newK l a s k by unfold newN; rw [HN.out])
      clear hO hK H0
      generalize newK l a s k = c at *
      go_wp2
      go_ret2
      rw [HE2.out]
      exact ⟨_, rfl, by rw [HE.out]; exact HO.out, HK.out⟩
end Go.Proofs.YtcnaaoakcmdfkaaDoor
