/- Proved: what the reader's calls Uint, Int, Text and Done of package varint answer, and what becomes of memory. Condition: the reader's two cells are known (Rd), or the pointer is nil. -/
import Derived.Test.YtifcibmpeolmdaaDoorVa
import Derived.Laws.BitsAllLaws
import Derived.IntWalk
import Derived.OpenShut
namespace Go.Proofs.YtifcibmpeolmdaaDoor
open Go.RowKit

theorem err_rd (b : Nat) (l : List UInt8) (x : Int) (w : World) (h : Rd w b l x) : Calls Tryd.prog 53 #[.pointer (some ⟨b, 0, none⟩)] w fun e w' => e = .returned (.int .i64 x) ∧ w = w' := err_at b x w h.err

theorem or_step (m cn k sh : Nat) (hs : sh = 7 * k) (hm : m < 2 ^ (7 * k)) (hc : cn < 256) (hk : k ≤ 9) (h9 : k = 9 → cn % 128 ≤ 1) :
    bits .or .u64 (m : Int) (IntKind.u64.wrap (IntKind.u64.wrap (bits .and .u8 (cn : Int) 127) * 2 ^ sh)) = ((m + cn % 128 * 2 ^ (7 * k) : Nat) : Int) := by
  subst hs
  have e1 : bits .and .u8 (cn : Int) 127 = ((cn % 128 : Nat) : Int) := by
    have := u8_and_nat cn 127 hc (by omega)
    rw [nat_mask7] at this
    exact this
  have hb : cn % 128 * 2 ^ (7 * k) < 18446744073709551616 ∧ m < 18446744073709551616 := by
    by_cases e : k = 9
    · subst e
      have := h9 rfl
      have : cn % 128 * 2 ^ (7 * 9) ≤ 1 * 2 ^ (7 * 9) := Nat.mul_le_mul_right _ this
      simp only [Nat.reduceMul, Nat.reducePow] at *
      omega
    · have h1 : 2 ^ (7 * k) ≤ 2 ^ 56 := Nat.pow_le_pow_right (by omega) (by omega)
      have h2 : cn % 128 * 2 ^ (7 * k) ≤ 127 * 2 ^ 56 := Nat.mul_le_mul (by omega) h1
      simp only [Nat.reduceMul, Nat.reducePow] at *
      omega
  have e2 : IntKind.u64.wrap (((cn % 128 : Nat) : Int)) = ((cn % 128 : Nat) : Int) := by rw [IntKind.wrap_u64]; omega
  have e3 : (((cn % 128 : Nat) : Int)) * 2 ^ (7 * k) = ((cn % 128 * 2 ^ (7 * k) : Nat) : Int) := by rw [Int.natCast_mul, Int.natCast_pow]; rfl
  rw [e1, e2, e3]
  generalize hp : cn % 128 * 2 ^ (7 * k) = p at *
  have e4 : IntKind.u64.wrap (p : Int) = (p : Int) := by rw [IntKind.wrap_u64]; omega
  rw [e4, u64_or_nat m p hb.2 hb.1, Nat.or_comm, nat_join (7 * k) p m (by rw [← hp]; simp) hm, Nat.add_comm]

def UintRel (b : Nat) (l : List UInt8) (x : Int) (w : World) (n s : Value) (wr : World) : Prop :=
  ∃ f k m sh l' x', f + k = 10 ∧ 0 < f ∧ m < 2 ^ (7 * k) ∧ n = .int .u64 (m : Nat) ∧ s = .int .i64 (sh : Nat) ∧ sh = 7 * k ∧ Rd wr b l' x' ∧ Only b w wr ∧ V.uintF l x = V.uintL f k m l' x' 

set_option maxRecDepth 100000 in
set_option maxHeartbeats 400000 in
theorem uint_at (b : Nat) (l : List UInt8) (x : Int) (w : World) (h : Rd w b l x) : Calls Tryd.prog 52 #[.pointer (some ⟨b, 0, none⟩)] w (RdPost b w (.int .u64 (V.uintF l x).1) (V.uintF l x).2.1 (V.uintF l x).2.2) := by
  go_enter Tryd.func52, Tryd.ntmps52
  go_wp2_with fail
  go_loopw [3, 4] (fun n s wr => UintRel b l x w n s wr) (fun _ s _ => 70 - (intOf s).toNat)
  case atStart => exact ⟨10, 0, 0, 0, l, x, rfl, by omega, by simp, rfl, rfl, rfl, h, Only.refl _ _, rfl⟩
  case round =>
    obtain ⟨f, k, m, sh, l', x', hfk, hf, hm, rfl, rfl, hsh, hr, ho, hu⟩ := hrel
    have Hu := Lib.hid hu
    have Hsh := Lib.hid hsh
    have Hm := Lib.hid hm
    have hs63 : sh ≤ 63 := by omega
    have Hfk := Lib.hid hfk
    clear hu hsh hm hfk
    go_wp2_with fail
    refine (byte_at b l' x' _ hr).mono ?_
    rintro e w' ⟨rfl, hr', ho'⟩
    go_wp2_with fail
    refine (err_rd b _ _ _ hr').mono ?_
    rintro e w' ⟨rfl, rfl⟩
    have hc : (V.byteF l' x').1.toNat < 256 := by have := (V.byteF l' x').1.toNat_lt; omega
    generalize hq : V.byteF l' x' = q at *
    have Hq := Lib.hid hq
    clear hq
    obtain ⟨c, l2, y⟩ := q
    dsimp only at *
    generalize hcn : c.toNat = cn at *
    have Hcn := Lib.hid hcn
    clear hcn
    obtain ⟨g, rfl⟩ : ∃ g, f = g + 1 := ⟨f - 1, by omega⟩
    by_cases hy : y = 0
    · subst hy
      have hE := hr'.err
      have hF := hr'.free1
      have fin : (0 < sh ∧ cn = 0) ∨ (sh = 63 ∧ 1 < cn) → ∀ v, v = Value.int .u64 0 → RdPost b w (.int .u64 (V.uintF l x).1) (V.uintF l x).2.1 (V.uintF l x).2.2 (Ending.returned v) (w'.setCell ⟨b, 1, none⟩ (.int .i64 4)) := by
        intro hbad v hv
        have hL : V.uintF l x = (0, l2, 4) := by
          rw [Hu.out, V.uintL, Hq.out, if_neg (by simp), if_pos (by have := Hsh.out; have := Hcn.out; dsimp only; omega)]
        subst hv
        exact ⟨by rw [hL]; rfl, by rw [hL]; exact hr'.setErr 4, (ho.trans ho').trans (Only.setCell _ _ _ _)⟩
      have Fin := Lib.hid fin
      clear fin
      by_cases hb1 : 0 < sh ∧ cn = 0
      · have Hb1 := Lib.hid hb1
        obtain ⟨hp, hc0⟩ := hb1
        have hc1 : ((cn : Int) == 0) = true := by simp [hc0]
        clear hc0
        go_wp2
        go_ret
        exact Fin.out (.inl Hb1.out) _ rfl
      · have HN1 := Lib.hid hb1
        by_cases hb2 : sh = 63 ∧ 1 < cn
        · have Hb2 := Lib.hid hb2
          have h1 : ((sh : Int) == 63) = true := by simp; omega
          have h2 : 1 < cn := hb2.2
          have h3 : 0 < sh := by omega
          clear hb1 hb2
          go_wp2
          go_ret
          exact Fin.out (.inr Hb2.out) _ rfl
        · have hgo : ¬ (0 < k ∧ c.toNat = 0 ∨ k = 9 ∧ 1 < c.toNat) := by have := Hsh.out; have := Hcn.out; omega
          have Hgo := Lib.hid hgo
          have Hor := Lib.hid (or_step m cn k sh Hsh.out Hm.out hc (by have := Hsh.out; omega) (by have := Hsh.out; omega))
          clear hgo
          by_cases h128 : cn < 128
          · have fin2 : ∀ v, v = Value.int .u64 ((m + cn % 128 * 2 ^ (7 * k) : Nat) : Int) → RdPost b w (.int .u64 (V.uintF l x).1) (V.uintF l x).2.1 (V.uintF l x).2.2 (Ending.returned v) w' := by
              intro v hv
              have hL : V.uintF l x = (m + cn % 128 * 2 ^ (7 * k), l2, 0) := by
                rw [Hu.out, V.uintL, Hq.out, if_neg (by simp), if_neg Hgo.out, if_pos (by have := Hcn.out; dsimp only; omega), Hcn.out]
              subst hv
              exact ⟨by rw [hL], by rw [hL]; exact hr', ho.trans ho'⟩
            have Fin2 := Lib.hid fin2
            clear fin2 Fin
            by_cases h0 : 0 < sh
            · have hcn0 : ((cn : Int) == 0) = false := by simp; omega
              by_cases h63 : sh = 63
              · have h1 : ((sh : Int) == 63) = true := by simp; omega
                have h2 : cn ≤ 1 := by omega
                clear hb1 hb2 h63
                go_wp2
                go_ret
                exact Fin2.out _ (congrArg (Value.int .u64) Hor.out)
              · have h1 : ((sh : Int) == 63) = false := by simp; omega
                clear hb1 hb2 h63
                go_wp2
                go_ret
                exact Fin2.out _ (congrArg (Value.int .u64) Hor.out)
            · have h1 : ((sh : Int) == 63) = false := by simp; omega
              clear hb1 hb2
              go_wp2
              go_ret
              exact Fin2.out _ (congrArg (Value.int .u64) Hor.out)
          · have hne : sh < 63 := by omega
            have h1 : ((sh : Int) == 63) = false := by simp; omega
            have hrel : UintRel b l x w (Value.int .u64 ((m + cn % 128 * 2 ^ (7 * k) : Nat) : Int)) (.int .i64 ((sh + 7 : Nat) : Int)) w' := by
              have hk := Hsh.out
              have hfk := Hfk.out
              refine ⟨g, k + 1, m + cn % 128 * 2 ^ (7 * k), sh + 7, l2, 0, by omega, by omega, ?_, rfl, rfl, by omega, hr', ho.trans ho', ?_⟩
              · have h3 := Hm.out
                have h4 : cn % 128 * 2 ^ (7 * k) ≤ 127 * 2 ^ (7 * k) := Nat.mul_le_mul_right _ (by omega)
                rw [show 7 * (k + 1) = 7 * k + 7 from by omega, Nat.pow_add]
                omega
              · rw [Hu.out, V.uintL, Hq.out, if_neg (by simp), if_neg Hgo.out, if_neg (by have := Hcn.out; dsimp only; omega), Hcn.out]
            have Hrel := Lib.hid hrel
            clear hrel Fin
            by_cases h0 : 0 < sh
            · have hcn0 : ((cn : Int) == 0) = false := by simp; omega
              clear hb1 hb2
              go_wp2
              go_roundw
              case rel => rw [Hor.out]; exact Hrel.out
              case measure => simp [intOf]; omega
            · clear hb1 hb2
              go_wp2
              go_roundw
              case rel => rw [Hor.out]; exact Hrel.out
              case measure => simp [intOf]; omega
    · have hy' : (y != 0) = true := by simpa using hy
      clear hy
      go_wp2
      go_ret
      have hL : V.uintF l x = (0, l2, y) := by
        rw [Hu.out, V.uintL, Hq.out, if_pos (by simpa using hy')]
      exact ⟨by rw [hL]; rfl, by rw [hL]; exact hr', ho.trans ho'⟩

set_option maxRecDepth 100000 in
set_option maxHeartbeats 400000 in
theorem uint_nil (w : World) : Calls Tryd.prog 52 #[.pointer none] w fun e w' => e = .returned (.int .u64 0) ∧ w = w' := by
  go_enter Tryd.func52, Tryd.ntmps52
  go_wp2_with fail
  refine wp_loop_rounds 1 ?_
  rw [rounds_succ]
  go_wp2_with fail
  refine (byte_nil _).mono ?_
  rintro e w' ⟨rfl, rfl⟩
  go_wp2_with fail
  refine (err_nil _).mono ?_
  rintro e w' ⟨rfl, rfl⟩
  go_wp2
  go_ret
  exact ⟨rfl, rfl⟩

set_option maxHeartbeats 400000 in
theorem text_nil (n : Int) (w : World) : Calls Tryd.prog 70 #[.pointer none, .int .i64 n] w fun e w' => e = .returned (.string ⟨#[]⟩) ∧ w = w' := by
  go_enter Tryd.func70, Tryd.ntmps70
  go_wp2_with fail
  refine (uint_nil _).mono ?_
  rintro e w' ⟨rfl, rfl⟩
  go_wp2_with fail
  refine (err_nil _).mono ?_
  rintro e w' ⟨rfl, rfl⟩
  go_wp2
  go_ret
  exact ⟨rfl, rfl⟩

set_option maxHeartbeats 400000 in
theorem done_nil (w : World) : Calls Tryd.prog 69 #[.pointer none] w fun e w' => e = .returned (.int .i64 10) ∧ w = w' := by
  go_enter Tryd.func69, Tryd.ntmps69
  go_wp2_with fail
  refine (err_nil _).mono ?_
  rintro e w' ⟨rfl, rfl⟩
  go_wp2
  go_ret
  exact ⟨rfl, rfl⟩

set_option maxHeartbeats 400000 in
theorem done_at (b : Nat) (l : List UInt8) (x : Int) (w : World) (h : Rd w b l x) : Calls Tryd.prog 69 #[.pointer (some ⟨b, 0, none⟩)] w fun e w' => e = .returned (.int .i64 (V.doneF l x)) ∧ w = w' := by
  unfold V.doneF
  by_cases hx : x = 0
  · subst hx
    rw [if_neg (by simp)]
    by_cases hl : 0 < l.length
    · rw [if_pos hl]
      go_enter Tryd.func69, Tryd.ntmps69
      go_wp2_with fail
      refine (err_rd b l 0 w h).mono ?_
      rintro e w' ⟨rfl, rfl⟩
      go_wp2_with fail
      refine (left_at b _ w h.rest).mono ?_
      rintro e w' ⟨rfl, rfl⟩
      have hl2 : 0 < (⟨l.toArray⟩ : ByteArray).size := by simpa [ByteArray.size] using hl
      go_wp2
      go_ret
      exact ⟨rfl, rfl⟩
    · rw [if_neg hl]
      go_enter Tryd.func69, Tryd.ntmps69
      go_wp2_with fail
      refine (err_rd b l 0 w h).mono ?_
      rintro e w' ⟨rfl, rfl⟩
      go_wp2_with fail
      refine (left_at b _ w h.rest).mono ?_
      rintro e w' ⟨rfl, rfl⟩
      have hl2 : (⟨l.toArray⟩ : ByteArray).size = 0 := by show l.toArray.size = 0; rw [List.size_toArray]; omega
      rw [hl2]
      clear hl2
      go_wp2
      go_ret
      exact ⟨rfl, rfl⟩
  · rw [if_pos hx]
    have hx' : (x != 0) = true := by simpa using hx
    go_enter Tryd.func69, Tryd.ntmps69
    go_wp2_with fail
    refine (err_rd b l x w h).mono ?_
    rintro e w' ⟨rfl, rfl⟩
    go_wp2
    go_ret
    exact ⟨rfl, rfl⟩

theorem half_odd (n : Nat) (h : n < 2 ^ 64) (h1 : ((n : Int) % 2 == 1) = true) : wrap64 (wrap64 (-wrap64 (IntKind.u64.wrap ((n : Int) / 2))) - 1) = V.intOfN n := by
  have h2 : (n : Int) % 2 = 1 := by simpa using h1
  have e1 : IntKind.u64.wrap ((n : Int) / 2) = (n : Int) / 2 := by rw [IntKind.wrap_u64]; omega
  have e2 : wrap64 ((n : Int) / 2) = (n : Int) / 2 := IntWalk.wrap64_in _ (by omega)
  have e3 : wrap64 (-((n : Int) / 2)) = -((n : Int) / 2) := IntWalk.wrap64_in _ (by omega)
  have e4 : wrap64 (-((n : Int) / 2) - 1) = -((n : Int) / 2) - 1 := IntWalk.wrap64_in _ (by omega)
  rw [e1, e2, e3, e4]
  unfold V.intOfN
  rw [if_pos (by omega)]
  omega

theorem half_even (n : Nat) (h : n < 2 ^ 64) (h1 : ((n : Int) % 2 == 1) = false) : wrap64 (IntKind.u64.wrap ((n : Int) / 2)) = V.intOfN n := by
  have h2 : ¬ (n : Int) % 2 = 1 := by simpa using h1
  have e1 : IntKind.u64.wrap ((n : Int) / 2) = (n : Int) / 2 := by rw [IntKind.wrap_u64]; omega
  have e2 : wrap64 ((n : Int) / 2) = (n : Int) / 2 := IntWalk.wrap64_in _ (by omega)
  rw [e1, e2]
  unfold V.intOfN
  rw [if_neg (by omega)]
  omega

set_option maxHeartbeats 400000 in
theorem text_at (b : Nat) (l : List UInt8) (x most : Int) (w : World) (h : Rd w b l x) (hmost : (Lit.int .i64 most).wf = true) : Calls Tryd.prog 70 #[.pointer (some ⟨b, 0, none⟩), .int .i64 most] w (RdPost b w (.string ⟨(V.textF l x most).1.toArray⟩) (V.textF l x most).2.1 (V.textF l x most).2.2) := by
  have hlt := V.uintF_lt l x
  unfold V.textF
  generalize hq : V.uintF l x = q at *
  obtain ⟨n, m, y⟩ := q
  have Hq := Lib.hid hq
  have Hlt := Lib.hid hlt
  clear hq hlt
  dsimp only
  by_cases hy : y = 0
  · subst hy
    rw [if_neg (by simp)]
    by_cases hneg : most < 0
    · rw [if_pos (.inl hneg)]
      go_enter Tryd.func70, Tryd.ntmps70
      go_wp2_with fail
      refine (uint_at b l x w h).mono ?_
      rw [Hq.out]
      rintro e w' ⟨rfl, hr, ho⟩
      dsimp only at *
      go_wp2_with fail
      refine (err_rd b _ _ _ hr).mono ?_
      rintro e w' ⟨rfl, rfl⟩
      have hE := hr.err
      have hF := hr.free1
      go_wp2
      go_ret
      exact ⟨rfl, hr.setErr 7, ho.trans (Only.setCell _ _ _ _)⟩
    · have hw : IntKind.u64.wrap most = most := by have := bounds_i64 hmost; rw [IntKind.wrap_u64]; omega
      obtain ⟨k, rfl⟩ := Int.eq_ofNat_of_zero_le (show 0 ≤ most by omega)
      by_cases hb : (k : Int) < (n : Int)
      · rw [if_pos (.inr hb)]
        have hb2 : k < n := by omega
        go_enter Tryd.func70, Tryd.ntmps70
        go_wp2_with fail
        refine (uint_at b l x w h).mono ?_
        rw [Hq.out]
        rintro e w' ⟨rfl, hr, ho⟩
        dsimp only at *
        go_wp2_with fail
        refine (err_rd b _ _ _ hr).mono ?_
        rintro e w' ⟨rfl, rfl⟩
        have hE := hr.err
        have hF := hr.free1
        go_wp2
        go_ret
        exact ⟨rfl, hr.setErr 7, ho.trans (Only.setCell _ _ _ _)⟩
      · rw [if_neg (by omega)]
        have hb2 : ¬ k < n := by omega
        have hcv : IntKind.i64.wrap (n : Int) = n := by have := bounds_i64 hmost; exact IntWalk.i64_in _ (by omega)
        go_enter Tryd.func70, Tryd.ntmps70
        go_wp2_with fail
        refine (uint_at b l x w h).mono ?_
        rw [Hq.out]
        rintro e w' ⟨rfl, hr, ho⟩
        dsimp only at *
        go_wp2_with fail
        refine (err_rd b _ _ _ hr).mono ?_
        rintro e w' ⟨rfl, rfl⟩
        go_wp2_with fail
        refine (raw_at b n m 0 w' hr).mono ?_
        rintro e w2 ⟨rfl, hr2, ho2⟩
        go_wp2
        go_ret
        exact ⟨rfl, hr2, ho.trans ho2⟩
  · rw [if_pos hy]
    have hy' : (y != 0) = true := by simpa using hy
    clear hy
    go_enter Tryd.func70, Tryd.ntmps70
    go_wp2_with fail
    refine (uint_at b l x w h).mono ?_
    rw [Hq.out]
    rintro e w' ⟨rfl, hr, ho⟩
    dsimp only at *
    go_wp2_with fail
    refine (err_rd b _ _ _ hr).mono ?_
    rintro e w' ⟨rfl, rfl⟩
    go_wp2
    go_ret
    exact ⟨rfl, hr, ho⟩
end Go.Proofs.YtifcibmpeolmdaaDoor
