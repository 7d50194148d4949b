/- Proved: the document's own bytes of numbers and texts (package signpostref01). Condition: numbers fit in 64 bits, texts have at most 10^12 bytes. -/
import Derived.Test.YtifcibmpeolmdaaDoorVd
import Derived.Test.YtifcibmpeolmdaaDoorVq
import Derived.Deep.RegionHeld3
namespace Go.Proofs.YtifcibmpeolmdaaDoor
open Go.RowKit

theorem conv_at (w : World) (g : Nat) (c : Int) (h : w.cell? ⟨g, 0, none⟩ = some (.int .u8 c)) : (convert 60 9 (.slice (some ⟨g, 0, none⟩) 1 1)).run Tryd.prog w = .ok (.string ⟨#[UInt8.ofNat c.toNat]⟩) w := by
  refine run_convert_bytes_arg w 60 5 Tryd.underlying60 Tryd.underlying5 g 0 1 1 [c] rfl ?_ 9 Tryd.underlying9
  intro i hi
  obtain rfl : i = 0 := by omega
  exact h

theorem bcell {W w1 : World} (hb : Below W.heap.size W w1) : ∀ b o, b < W.heap.size → w1.cell? ⟨b, o, none⟩ = W.cell? ⟨b, o, none⟩ := fun b o h => hb.cell (p := ⟨b, o, none⟩) h

def NumPost (n : Nat) (w : World) (e : Ending) (w' : World) : Prop := e = .returned (.string ⟨(V.enc n).toArray⟩) ∧ Below w.heap.size w w'

set_option maxRecDepth 100000 in
set_option maxHeartbeats 1000000 in
theorem number_at (n : Nat) : ∀ (w : World), n < 2 ^ 64 → Calls Tryd.prog 47 #[.int .u64 n] w (NumPost n w) := by
  induction n using Nat.strongRecOn with
  | ind n ih =>
    intro w hn
    by_cases h : n < 128
    · have hcv := conv_one (n : Int) w
      have He := Lib.hid (V.enc_lt n h)
      clear ih hn
      go_enter Tryd.func47, Tryd.ntmps47
      go_wp2
      go_ret
      exact ⟨by rw [He.out]; rfl, (Below.refl _ _).alloc (Nat.le_refl _) _⟩
    · obtain ⟨r, hr⟩ : ∃ r : Nat, r = n % 128 := ⟨_, rfl⟩
      obtain ⟨c, hc⟩ : ∃ c : Nat, c = n % 128 + 128 := ⟨_, rfl⟩
      obtain ⟨m, hm⟩ : ∃ m : Nat, m = n / 128 := ⟨_, rfl⟩
      have He : Hid (V.enc n = UInt8.ofNat c :: V.enc m) := by rw [hc, hm]; exact V.enc_ge n h
      have IH := Lib.hid (fun w => ih m (by omega) w (by omega))
      have hw0 : (n : Int).tmod 128 = (r : Int) := by rw [hr, Int.tmod_eq_emod_of_nonneg (by omega)]; omega
      have hw1 : IntKind.u8.wrap (r : Int) = (r : Int) := by rw [IntKind.wrap_u8']; omega
      have hw2 : IntKind.u8.wrap ((r : Int) + 128) = (c : Int) := by rw [IntKind.wrap_u8']; omega
      have hw3 : IntKind.u64.wrap ((n : Int) / 128) = (m : Int) := by rw [IntKind.wrap_u64]; omega
      have hcv : ∀ (w : World) (g : Nat), w.cell? ⟨g, 0, none⟩ = some (.int .u8 (c : Int)) → (convert 60 9 (.slice (some ⟨g, 0, none⟩) 1 1)).run Tryd.prog w = .ok (.string ⟨#[UInt8.ofNat c]⟩) w := fun w g h => conv_at w g c h
      have hge : 128 ≤ n := by omega
      have Hlen := Lib.hid (V.enc_len10 m (by omega))
      have hlm : (V.enc m).length ≤ 10 := Hlen.out
      clear ih hn h hr hc hm
      go_enter Tryd.func47, Tryd.ntmps47
      go_wp2_with fail
      go_region_with (go_at_call 47; refine (IH.out _).mono ?_; rintro e w1 ⟨rfl, b1⟩; have hk := bcell b1)
      all_goals
        clear hk
        go_wp2
        go_ret
        refine ⟨?_, ?_⟩
        · rw [He.out]
          exact congrArg (fun x => Ending.returned (Value.string x)) (app_list [UInt8.ofNat c] (V.enc m))
        · first
            | exact bMore (((Below.refl w.heap.size w).alloc (Nat.le_refl _) _).drew) b1 (Nat.le_refl _)
            | exact (bMore ((Below.refl w.heap.size w).drew) b1 (Nat.le_refl _)).alloc b1.size _

set_option maxHeartbeats 400000 in
theorem qtext_bytes (s : List UInt8) (w : World) (hs : s.length ≤ 1000000000000) : Calls Tryd.prog 48 #[.string ⟨s.toArray⟩] w fun e w' => e = .returned (.string ⟨(V.enc s.length ++ s).toArray⟩) ∧ Below w.heap.size w w' := by
  have hl := V.enc_len10 s.length (by omega)
  go_enter Tryd.func48, Tryd.ntmps48
  go_wp2_with fail
  refine (number_at s.length w (by omega)).mono ?_
  rintro e w' ⟨rfl, hb⟩
  go_wp2
  go_ret
  exact ⟨congrArg (fun x => Ending.returned (Value.string x)) (app_list _ _), hb⟩
end Go.Proofs.YtifcibmpeolmdaaDoor
