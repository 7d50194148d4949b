/- Proved: what the document's own step and Row, and crc's eightShifts answer. Condition: numbers of 32 bits. -/
import Derived.Test.YtcdcnlaijbjonaaRows
import Derived.Test.YtcdcnlaijbjonaaKp
import Derived.WalkKit
import Derived.Lib.Hide
import Derived.WalkSpells
import Derived.WalkLawsBesides
import Derived.Laws.BitsAllLaws
import Derived.IntWalk
import Derived.OpenShut
import Derived.Handy
import Derived.ScopeJumps
import Derived.Test.YtcdcnlaijbjonaaG
namespace Go.Proofs.Ytcdcnlaijbjonaa
open Go.RowKit

theorem stp_lt (x b : Nat) (h : x < 2 ^ 32) (hb : b < 2) : K.stp x b < 2 ^ 32 := by
  rw [K.stp_S _ _ hb]
  exact K.S_lt _ (Nat.xor_lt_two_pow h (by omega))

theorem xorP (x : Nat) (h : x < 4294967296) : bits .xor .u32 ((x : Int) / 2) 3988292384 = ((x / 2 ^^^ 3988292384 : Nat) : Int) := by
  have := u32_xor_nat (x / 2) 3988292384 (by omega) (by omega)
  simpa using this
theorem andP (x : Nat) (h : x < 4294967296) : bits .and .u32 (x : Int) 1 = ((x % 2 : Nat) : Int) := by
  have := u32_and_nat x 1 (by omega) (by omega)
  rw [Nat.and_one_is_mod] at this
  exact this

set_option maxRecDepth 100000 in
theorem step_at (x b : Nat) (w : World) (h : x < 4294967296) (_hb : b < 2) : Calls Try.prog 30 #[.int .u32 x, .int .u32 b] w fun e w' => e = .returned (.int .u32 (K.stp x b)) ∧ w' = w := by
  have hx := xorP x h
  unfold K.stp K.poly
  by_cases hc : x % 2 = b
  · have hd : ((x : Int) % 2 != (b : Int)) = false := by simp; omega
    rw [if_neg (by omega)]
    go_enter Try.func30, Try.ntmps30
    go_wp2
    go_ret
    exact ⟨by simp, rfl⟩
  · have hd : ((x : Int) % 2 != (b : Int)) = true := by simp; omega
    rw [if_pos (by omega)]
    go_enter Try.func30, Try.ntmps30
    go_wp2
    go_ret
    exact ⟨rfl, rfl⟩

def EightJ (x : Nat) (w : World) (a : Act) (w' : World) : Prop :=
  w' = w ∧ ∃ n y : Nat, ∃ u4 u5 u6 u7 u8 u9 u10 u11 u12 u13 u14 u15, a = { tmps := #[.int .u32 y, undef, .int .u32 0, .int .i64 (n + 1 : Nat), u4, u5, u6, u7, u8, u9, u10, u11, u12, u13, u14, u15, undef], defers := [] } ∧ y < 4294967296 ∧ K.Sn (n + 1) y = K.Sn 8 x ∧ n < 8
def EightM (a : Act) (_ : World) : Nat := (intOf (a.tmps.getD 3 undef)).toNat

set_option maxRecDepth 100000 in
theorem eight_at (x : Nat) (w : World) (h : x < 4294967296) : Calls Try.prog 34 #[.int .u32 x] w fun e w' => e = .returned (.int .u32 (K.Sn 8 x)) ∧ w' = w := by
  go_enter Try.func34, Try.ntmps34
  go_wp2
  refine wp_scope_again 0 (EightJ x w) EightM rfl ?_ ?_
  · rintro a w' m ⟨rfl, n, y, u4, u5, u6, u7, u8, u9, u10, u11, u12, u13, u14, u15, rfl, hy, hs, hn⟩ hm
    have hx := xorP y hy
    have ha := andP y hy
    have Hs := Lib.hid (show K.Sn n (K.S y) = K.Sn 8 x from hs)
    have hm2 : m = n + 1 := by rw [← hm]; simp [EightM, intOf]
    have hlt : K.S y < 4294967296 := K.S_lt y hy
    clear hs hm
    by_cases hc : y % 2 = 1
    · have e : K.S y = y / 2 ^^^ 3988292384 := by unfold K.S K.poly; rw [if_pos hc]
      rw [← e] at hx
      rw [hc] at ha
      clear e
      by_cases hn0 : 0 < n
      · go_wp2
        go_step3
        obtain ⟨k, rfl⟩ : ∃ k, n = k + 1 := ⟨n - 1, by omega⟩
        exact ⟨rfl, ⟨rfl, k, K.S y, _, _, _, _, _, _, _, _, _, _, _, _, rfl, hlt, Hs.out, by omega⟩, by simp [EightM, intOf, hm2]⟩
      · go_wp2
        simp only [Exit.jump]
        go_ret
        obtain rfl : n = 0 := by omega
        rw [← Hs.out]
        exact ⟨rfl, rfl⟩
    · have e : K.S y = y / 2 := by unfold K.S; rw [if_neg hc]
      have e2 : ((y : Int) / 2) = ((K.S y : Nat) : Int) := by rw [e]; simp
      have hc0 : y % 2 = 0 := by omega
      rw [hc0] at ha
      clear e hx
      by_cases hn0 : 0 < n
      · go_wp2
        go_step3
        obtain ⟨k, rfl⟩ : ∃ k, n = k + 1 := ⟨n - 1, by omega⟩
        exact ⟨rfl, ⟨rfl, k, K.S y, _, _, _, _, _, _, _, _, _, _, _, _, rfl, hlt, Hs.out, by omega⟩, by simp [EightM, intOf, hm2]⟩
      · go_wp2
        simp only [Exit.jump]
        go_ret
        obtain rfl : n = 0 := by omega
        rw [← Hs.out]
        exact ⟨rfl, rfl⟩
  · intro again
    go_wp2
    go_step3
    rename_i hK
    exact hK _ _ (again _ _ ⟨rfl, 7, x, _, _, _, _, _, _, _, _, _, _, _, _, rfl, h, rfl, by omega⟩)

theorem eight (x : Nat) (h : x < 4294967296) : Gives Try.prog 34 #[.int .u32 x] (.int .u32 (K.Sn 8 x)) := Gives.of_same fun w => eight_at x w h

def RowRel (x : Nat) (r i : Value) : Prop := ∃ n k : Nat, r = .int .u32 n ∧ i = .int .i64 k ∧ n < 4294967296 ∧ k ≤ 8 ∧ K.Sn (8 - k) n = K.Sn 8 x

end Go.Proofs.Ytcdcnlaijbjonaa
