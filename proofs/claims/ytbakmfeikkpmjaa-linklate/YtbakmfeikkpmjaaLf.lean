/- Proved: what All answers, and what it leaves. Condition: lists are short enough for memory. -/
import Derived.Test.YtbakmfeikkpmjaaLe
namespace Go.Proofs.Ytbakmfeikkpmjaa
open Go.RowKit

theorem Own.grown3 {α : Type} {t k : Nat} {enc : α → List Value} {B : Nat} {w w' : World} {v : Value} {l : List α} (h : Own t k enc B w v l) (_hs : w.heap.size ≤ w'.heap.size) (hb : ∀ g, v.ownBlock = some g → w'.heap[g]? = w.heap[g]?) : Own t k enc B w' v l := by
  refine ⟨h.1, ?_⟩
  rcases h.2 with h1 | ⟨g, cap, cur, e, h1, h2, h3⟩
  · exact .inl h1
  · exact .inr ⟨g, cap, cur, e, h1, (hb g (by rw [e]; rfl)).trans h2, h3⟩
theorem Own.block' {α : Type} {t k : Nat} {enc : α → List Value} {B : Nat} {w : World} {v : Value} {l : List α} (h : Own t k enc B w v l) (g : Nat) (hg : v.ownBlock = some g) : B ≤ g ∧ g < w.heap.size := World.ownsRow.lt h g hg
def sliceLen : Value → Nat
  | .slice _ n _ => n
  | _ => 0
section
variable {w : World} {b : Nat} {W T : Texts} {K : List Nat}
set_option maxRecDepth 100000 in
theorem all_nil (w : World) : Calls Try.prog 12 #[.pointer none] w fun e w' => e = .returned (.slice none 0 0) ∧ w' = w := by
  go_enter Try.func12, Try.ntmps12
  go_wp2_with fail
  refine (arrive_nil _).mono ?_
  rintro e w1 ⟨rfl, rfl⟩
  go_wp2_with fail
  go_loopw [3, 4, 5] (fun l s ok wr => wr = w1 ∧ l = .slice none 0 0 ∧ s = .string ⟨#[]⟩ ∧ ok = .bool false) (fun _ _ _ _ => 0)
  case atStart => exact ⟨rfl, rfl, rfl, rfl⟩
  case round =>
    obtain ⟨rfl, rfl, rfl, rfl⟩ := hrel
    go_wp2
    go_ret
    exact ⟨rfl, rfl⟩
/-- D came, and is listed; then x, if it is so, then what is left. -/
def AlRel (L : Texts) (w : World) (K : List Nat) (b : Nat) (l s ok : Value) (wr : World) : Prop :=
  ∃ D : Texts, OwnS w.heap.size wr l D ∧ ∃ K' W' T', Lk wr K' b W' T' ∧ Sb w K wr K' ∧
    ((∃ x, s = .string ⟨List.toArray x⟩ ∧ ok = .bool true ∧ D ++ x :: (W' ++ T') = L) ∨ (s = .string ⟨#[]⟩ ∧ ok = .bool false ∧ D = L ∧ W' = [] ∧ T' = []))
set_option maxRecDepth 100000 in
set_option maxHeartbeats 1000000 in
theorem lall (h : Lk w K b W T) (hl : W.length + T.length ≤ 900000) : Calls Try.prog 12 #[.pointer (some ⟨b, 0, none⟩)] w fun e w' => ∃ v, e = .returned v ∧ OwnS w.heap.size w' v (W ++ T) ∧ ∃ K', Lk w' K' b [] [] ∧ Sb w K w' K' := by
  obtain ⟨L, hL⟩ : ∃ L, W ++ T = L := ⟨_, rfl⟩
  obtain ⟨N, hN⟩ : ∃ N, L.length = N := ⟨_, rfl⟩
  have hN9 : N ≤ 900000 := by rw [← hN, ← hL, List.length_append]; exact hl
  have HN := Lib.hid hN
  have HLow := Lib.hid h.low
  rw [hL]
  -- the first one
  have HA : Hid (Calls Try.prog 9 #[.pointer (some ⟨b, 0, none⟩)] w fun e w' => ∃ s ok, e = .returned (.tuple #[s, ok]) ∧ AlRel L w K b (.slice none 0 0) s ok w') := Lib.hid (by
    cases hc : L with
    | nil =>
      have hWT := hL.trans hc
      obtain ⟨rfl, rfl⟩ : W = [] ∧ T = [] := by simpa using hWT
      refine (arr_none h).mono ?_
      rintro e w' ⟨rfl, rfl⟩
      exact ⟨_, _, rfl, [], Own.nil _ _, K, [], [], h, Sb.keep _ (Keep.refl _), .inr ⟨rfl, rfl, rfl, rfl, rfl⟩⟩
    | cons x R =>
      refine (larrive h (hL.trans hc)).mono ?_
      rintro e w' ⟨rfl, K', W', T', hR, h1, h2⟩
      exact ⟨_, _, rfl, [], Own.nil _ _, K', W', T', h1, h2, .inl ⟨x, rfl, rfl, by rw [hR]; rfl⟩⟩)
  clear h hL hN hl
  go_enter Try.func12, Try.ntmps12
  go_wp2_with fail
  refine HA.out.mono ?_
  rintro e w1 ⟨s, ok, rfl, hr⟩
  have HR := Lib.hid hr
  clear hr HA
  go_wp2_with fail
  go_loopw [3, 4, 5] (fun l s ok wr => AlRel L w K b l s ok wr) (fun l _ _ _ => N - sliceLen l)
  case atStart => exact HR.out
  case round =>
    obtain ⟨D, hO, K', W', T', hk, hs, hx⟩ := hrel
    rcases hx with ⟨x, rfl, rfl, hD⟩ | ⟨rfl, rfl, rfl, rfl, rfl⟩
    · have hDl : D.length + 1 + (W' ++ T').length = N := by rw [← HN.out, ← hD]; simp; omega
      obtain ⟨a9, c9, hv9, _, _⟩ := (OwnS.cells hO).form
      have HO := Lib.hid hO
      have HK := Lib.hid hk
      have HS := Lib.hid hs
      have HD := Lib.hid hD
      have HM := Lib.hid hv9
      have ka := (Keep.refl wr).alloc (.cells #[.string ⟨List.toArray x⟩] 9)
      have HKA := Lib.hid ka
      have hsz := Nat.le_trans hs.turn.size ka.size
      clear hO hk hs hD hv9 ka HR
      go_wp2_with (at_builtin; refine wp_app elS rfl _ _ rfl w.heap.size _ _ D [x] rfl rfl (HO.out.keep HKA.out) (one_new wr wr.heap.size rfl x) ?q1 ?q2 hsz ?_)
      case q1 => simp; omega
      case q2 => simp; omega
      intro v' w2 hO2 hG
      have HO2 := Lib.hid hO2
      have hK2 : Lk w2 K' b W' T' := ((HK.out.keep HKA.out).turn (Turn.grow (K := u3.ownBlock.toList) hG fun g hg => by simp [hg]) fun k hk hk2 => by
        have h1 := HLow.out k (HS.out.sub k hk)
        have h2 := (HO.out.block' k (by simpa using hk2)).1
        omega)
      have hS2 : Sb w K w2 K' := ⟨⟨by rw [hG.os, HKA.out.1]; exact HS.out.turn.os, by rw [hG.tape, HKA.out.2]; exact HS.out.turn.tape, by rw [hG.output, HKA.out.3]; exact HS.out.turn.output, Nat.le_trans hsz hG.size, fun i hi hn => by
        rw [hG.block i (Nat.lt_of_lt_of_le hi hsz) (fun e => by have := (HO.out.block' i e.symm).1; omega), HKA.out.block i (Nat.lt_of_lt_of_le hi HS.out.turn.size)]
        exact HS.out.turn.block i hi hn⟩, HS.out.sub⟩
      have HA2 : Hid (Calls Try.prog 9 #[.pointer (some ⟨b, 0, none⟩)] w2 fun e w' => ∃ s ok, e = .returned (.tuple #[s, ok]) ∧ AlRel L w K b v' s ok w') := Lib.hid (by
        have keep : ∀ w' K2, Sb w2 K' w' K2 → OwnS w.heap.size w' v' (D ++ [x]) := fun w' K2 q => Own.grown3 HO2.out q.turn.size fun g hg => q.turn.block g (HO2.out.block' g hg).2 fun hi => by
          have h1 := HLow.out g (HS.out.sub g hi)
          have h2 := (HO2.out.block' g hg).1
          omega
        cases hc : W' ++ T' with
        | nil =>
          obtain ⟨rfl, rfl⟩ : W' = [] ∧ T' = [] := by simpa using hc
          refine (arr_none hK2).mono ?_
          rintro e w' ⟨rfl, rfl⟩
          exact ⟨_, _, rfl, D ++ [x], HO2.out, K', [], [], hK2, hS2, .inr ⟨rfl, rfl, by rw [← HD.out]; rfl, rfl, rfl⟩⟩
        | cons y R =>
          refine (larrive hK2 hc).mono ?_
          rintro e w' ⟨rfl, K2, W2, T2, hR, h1, h2⟩
          exact ⟨_, _, rfl, D ++ [x], keep _ _ h2, K2, W2, T2, h1, hS2.then h2, .inl ⟨y, rfl, rfl, by rw [hR, ← HD.out, hc]; simp⟩⟩)
      have hlen : sliceLen v' = D.length + 1 := by
        obtain ⟨a, c, e, _, _⟩ := (OwnS.cells HO2.out).form
        rw [e]; simp [sliceLen]
      have hlen0 : sliceLen u3 = D.length := by rw [HM.out]; rfl
      have HLn := Lib.hid (show N - sliceLen v' < N - sliceLen u3 by omega)
      clear hK2 hS2 hG hlen hlen0 hDl hsz
      go_wp2_with fail
      refine HA2.out.mono ?_
      rintro e w3 ⟨s3, ok3, rfl, hr3⟩
      have HR3 := Lib.hid hr3
      clear hr3 HA2
      go_wp2
      go_roundw
      case rel => exact HR3.out
      case measure => exact HLn.out
    · have HO := Lib.hid hO
      have HK := Lib.hid (show ∃ K', Lk wr K' b [] [] ∧ Sb w K wr K' from ⟨_, hk, hs⟩)
      clear hO hk hs
      go_wp2
      go_ret
      exact ⟨_, rfl, HO.out, HK.out⟩
end
end Go.Proofs.Ytbakmfeikkpmjaa
