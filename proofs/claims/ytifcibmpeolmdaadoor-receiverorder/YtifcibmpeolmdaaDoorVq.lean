/- Proved: what the document's own reader (package signpostref01) answers, and what becomes of memory. Condition: its two cells are known (Rd). -/
import Derived.Test.YtifcibmpeolmdaaDoorVb
import Derived.Handy
namespace Go.Proofs.YtifcibmpeolmdaaDoor
open Go.RowKit

def NewRd (w : World) (l : List UInt8) : World := w.alloc (.cells #[.string ⟨l.toArray⟩, .int .i64 0] 108)
theorem NewRd.rd (w : World) (l : List UInt8) (hl : l.length ≤ maxLen) : Rd (NewRd w l) w.heap.size l 0 := by
  unfold NewRd
  exact ⟨by go_simp, by go_simp, by go_simp, by go_simp, hl⟩
theorem NewRd.below (w : World) (l : List UInt8) : Below w.heap.size w (NewRd w l) := (Below.refl _ _).alloc (Nat.le_refl _) _
theorem NewRd.size (w : World) (l : List UInt8) : (NewRd w l).heap.size = w.heap.size + 1 := by unfold NewRd; simp

set_option maxHeartbeats 400000 in
theorem newreader_at (l : List UInt8) (w : World) : Calls Tryd.prog 51 #[.string ⟨l.toArray⟩] w fun e w' => e = .returned (.pointer (some ⟨w.heap.size, 0, none⟩)) ∧ NewRd w l = w' := by
  go_enter Tryd.func51, Tryd.ntmps51
  go_wp2
  go_ret
  exact ⟨rfl, rfl⟩

def ReaderPost (w : World) (l : List UInt8) (e : Ending) (w' : World) : Prop := ∃ b, e = .returned (.pointer (some ⟨b, 0, none⟩)) ∧ b = w.heap.size ∧ Rd w' b l 0 ∧ Below w.heap.size w w'
theorem newreader (l : List UInt8) (w : World) (hl : l.length ≤ maxLen) : Calls Tryd.prog 51 #[.string ⟨l.toArray⟩] w (ReaderPost w l) := by
  refine (newreader_at l w).mono ?_
  rintro e w' ⟨rfl, rfl⟩
  exact ⟨w.heap.size, rfl, rfl, NewRd.rd w l hl, NewRd.below w l⟩

theorem Rd.below {w w' : World} {b : Nat} {l : List UInt8} {x : Int} (h : Rd w b l x) (k : Below w.heap.size w w') : Rd w' b l x :=
  ⟨(k.cell h.lt).trans h.rest, (k.cell h.lt).trans h.err, (k.frozen h.lt).trans h.free0, (k.frozen h.lt).trans h.free1, h.len⟩

theorem bOnly {N : Nat} {u v w : World} {b : Nat} (h : Below N u v) (k : Only b v w) (hb : N ≤ b) (hN : N ≤ u.heap.size) : Below N u w := Only.below h k hb (Nat.le_trans hN h.size)
theorem bMore {N : Nat} {u v w : World} (h : Below N u v) (k : Below v.heap.size v w) (hN : N ≤ u.heap.size) : Below N u w := h.trans (k.mono (Nat.le_trans hN h.size))

set_option maxHeartbeats 400000 in
theorem fail_at (b : Nat) (y : Int) (w : World) (h1 : w.cell? ⟨b, 1, none⟩ = some (.int .i64 0)) (f1 : w.frozen? ⟨b, 1, none⟩ = false) : Calls Tryd.prog 72 #[.pointer (some ⟨b, 0, none⟩), .int .i64 y] w fun e w' => e = .returned (.tuple #[]) ∧ w.setCell ⟨b, 1, none⟩ (.int .i64 y) = w' := by
  go_enter Tryd.func72, Tryd.ntmps72
  go_wp2
  go_returns
  exact ⟨rfl, rfl⟩

set_option maxHeartbeats 400000 in
theorem qraw_at (b : Nat) (n : Int) (l : List UInt8) (x : Int) (w : World) (h : Rd w b l x) : Calls Tryd.prog 73 #[.pointer (some ⟨b, 0, none⟩), .int .i64 n] w (RdPost b w (.string ⟨(V.rawF l x n).1.toArray⟩) (V.rawF l x n).2.1 (V.rawF l x n).2.2) := by
  have h0 := h.rest
  have h1 := h.err
  have f0 := h.free0
  have f1 := h.free1
  have hm := h.len
  unfold maxLen at hm
  unfold V.rawF
  by_cases hx : x = 0
  · subst hx
    rw [if_neg (by simp)]
    by_cases hn : n < 0
    · rw [if_pos hn]
      go_enter Tryd.func73, Tryd.ntmps73
      go_wp2_with fail
      refine (fail_at b 1 w h1 f1).mono ?_
      rintro e w' ⟨rfl, rfl⟩
      go_wp2
      go_ret
      exact ⟨rfl, h.setErr 1, Only.setCell _ _ _ _⟩
    · rw [if_neg hn]
      obtain ⟨n, rfl⟩ := Int.eq_ofNat_of_zero_le (show 0 ≤ n by omega)
      rw [Int.toNat_natCast]
      by_cases hl : (l.length : Int) < (n : Int)
      · rw [if_pos hl]
        have hl2 : l.length < n := by omega
        go_enter Tryd.func73, Tryd.ntmps73
        go_wp2_with fail
        refine (fail_at b 3 w h1 f1).mono ?_
        rintro e w' ⟨rfl, rfl⟩
        go_wp2
        go_ret
        exact ⟨rfl, h.setErr 3, Only.setCell _ _ _ _⟩
      · rw [if_neg hl]
        have hl2 : n ≤ l.length := by omega
        go_enter Tryd.func73, Tryd.ntmps73
        go_wp2
        go_ret
        refine ⟨congrArg (fun s => Ending.returned (.string s)) (ext_take l n), ?_, ?_⟩
        · rw [ext_drop]; exact h.setRest _ (by have := h.len; simp; omega)
        · exact Only.setCell _ _ _ _
  · rw [if_pos hx]
    have hx' : (x != 0) = true := by simpa using hx
    clear hx
    go_enter Tryd.func73, Tryd.ntmps73
    go_wp2
    go_ret
    exact ⟨rfl, h, Only.refl _ _⟩

set_option maxHeartbeats 400000 in
theorem qbyte_at (b : Nat) (l : List UInt8) (x : Int) (w : World) (h : Rd w b l x) : Calls Tryd.prog 71 #[.pointer (some ⟨b, 0, none⟩)] w (RdPost b w (.int .u8 (V.byteF l x).1.toNat) (V.byteF l x).2.1 (V.byteF l x).2.2) := by
  have hz := V.byteF_zero l x
  have hr := V.byte_raw l x
  generalize V.byteF l x = q at *
  obtain ⟨c, m, y⟩ := q
  by_cases hy : y = 0
  · subst hy
    simp only [if_true] at hr
    have Hr := Lib.hid hr
    clear hr hz
    go_enter Tryd.func71, Tryd.ntmps71
    go_wp2_with fail
    refine (qraw_at b 1 l x w h).mono ?_
    rintro e w' ⟨rfl, hr', ho⟩
    rw [Hr.out] at hr' ⊢
    go_wp2
    go_ret
    exact ⟨rfl, hr', ho⟩
  · have Hz : c = 0 := hz hy
    subst Hz
    simp only [if_neg hy] at hr
    have Hr := Lib.hid hr
    clear hr hz
    go_enter Tryd.func71, Tryd.ntmps71
    go_wp2_with fail
    refine (qraw_at b 1 l x w h).mono ?_
    rintro e w' ⟨rfl, hr', ho⟩
    rw [Hr.out] at hr' ⊢
    go_wp2
    go_ret
    exact ⟨rfl, hr', ho⟩

def QRel (b : Nat) (l : List UInt8) (x : Int) (w : World) (n s : Value) (wr : World) : Prop :=
  ∃ f k m l' x', f + k = 10 ∧ 0 < f ∧ m < 2 ^ (7 * k) ∧ n = .int .u64 (m : Nat) ∧ s = .int .i64 (k : Nat) ∧ Rd wr b l' x' ∧ Only b w wr ∧ V.uintF l x = V.uintL f k m l' x'

theorem add_step (m cn k : Nat) (hm : m < 2 ^ (7 * k)) (hc : cn < 256) (hk : k ≤ 9) (h9 : k = 9 → cn ≤ 1) : m + cn % 128 * 2 ^ (7 * k) < 18446744073709551616 := by
  by_cases e : k = 9
  · subst e
    have := h9 rfl
    have : cn % 128 * 2 ^ (7 * 9) ≤ 1 * 2 ^ (7 * 9) := Nat.mul_le_mul_right _ (by omega)
    simp only [Nat.reduceMul, Nat.reducePow] at *
    omega
  · have h1 : 2 ^ (7 * k) ≤ 2 ^ 56 := Nat.pow_le_pow_right (by omega) (by omega)
    have h2 : cn % 128 * 2 ^ (7 * k) ≤ 127 * 2 ^ 56 := Nat.mul_le_mul (by omega) h1
    simp only [Nat.reduceMul, Nat.reducePow] at *
    omega

theorem add_num (m cn k : Nat) (hm : m < 2 ^ (7 * k)) (hc : cn < 256) (hk : k ≤ 9) (h9 : k = 9 → cn ≤ 1) : IntKind.u64.wrap ((m : Int) + IntKind.u64.wrap ((cn : Int) % 128 * 2 ^ (7 * k))) = ((m + cn % 128 * 2 ^ (7 * k) : Nat) : Int) := by
  have hb := add_step m cn k hm hc hk h9
  have e3 : ((cn : Int) % 128) * 2 ^ (7 * k) = ((cn % 128 * 2 ^ (7 * k) : Nat) : Int) := by rw [Int.natCast_mul, Int.natCast_pow]; rfl
  rw [e3]
  generalize cn % 128 * 2 ^ (7 * k) = p at *
  rw [IntKind.wrap_u64, IntKind.wrap_u64]
  omega

set_option maxRecDepth 100000 in
set_option maxHeartbeats 400000 in
theorem quint_at (b : Nat) (l : List UInt8) (x : Int) (w : World) (h : Rd w b l x) : Calls Tryd.prog 55 #[.pointer (some ⟨b, 0, none⟩)] w (RdPost b w (.int .u64 (V.uintF l x).1) (V.uintF l x).2.1 (V.uintF l x).2.2) := by
  go_enter Tryd.func55, Tryd.ntmps55
  go_wp2_with fail
  go_loopw [3, 4] (fun n s wr => QRel b l x w n s wr) (fun _ s _ => 10 - (intOf s).toNat)
  case atStart => exact ⟨10, 0, 0, l, x, rfl, by omega, by simp, rfl, rfl, h, Only.refl _ _, rfl⟩
  case round =>
    obtain ⟨f, k, m, l', x', hfk, hf, hm, rfl, rfl, hr, ho, hu⟩ := hrel
    have Hu := Lib.hid hu
    have Hm := Lib.hid hm
    have Hfk := Lib.hid hfk
    have hk9 : k ≤ 9 := by omega
    obtain ⟨g, rfl⟩ : ∃ g, f = g + 1 := ⟨f - 1, by omega⟩
    clear hu hm hfk
    go_wp2_with fail
    refine (qbyte_at b l' x' _ hr).mono ?_
    rintro e w' ⟨rfl, hr', ho'⟩
    have hc : (V.byteF l' x').1.toNat < 256 := by have := (V.byteF l' x').1.toNat_lt; omega
    generalize hq : V.byteF l' x' = q at *
    have Hq := Lib.hid hq
    clear hq
    obtain ⟨c, l2, y⟩ := q
    dsimp only at *
    generalize hcn : c.toNat = cn at *
    have Hcn := Lib.hid hcn
    clear hcn
    have hE := hr'.err
    have hF := hr'.free1
    by_cases hy : y = 0
    · subst hy
      have fin : (0 < k ∧ cn = 0) ∨ (k = 9 ∧ 1 < cn) → ∀ v, v = Value.int .u64 0 → RdPost b w (.int .u64 (V.uintF l x).1) (V.uintF l x).2.1 (V.uintF l x).2.2 (Ending.returned v) (w'.setCell ⟨b, 1, none⟩ (.int .i64 4)) := by
        intro hbad v hv
        have hL : V.uintF l x = (0, l2, 4) := by
          rw [Hu.out, V.uintL, Hq.out, if_neg (by simp), if_pos (by have := Hcn.out; dsimp only; omega)]
        subst hv
        exact ⟨by rw [hL]; rfl, by rw [hL]; exact hr'.setErr 4, (ho.trans ho').trans (Only.setCell _ _ _ _)⟩
      have Fin := Lib.hid fin
      clear fin
      by_cases hb2 : k = 9 ∧ 1 < cn
      · have Hb2 := Lib.hid hb2
        have h1 : ((k : Int) == 9) = true := by simp; omega
        have h2 : 1 < cn := hb2.2
        clear hb2
        go_wp2_with fail
        refine (fail_at b 4 w' hE hF).mono ?_
        rintro e w2 ⟨rfl, rfl⟩
        go_wp2
        go_ret
        exact Fin.out (.inr Hb2.out) _ rfl
      · have Hor := Lib.hid (add_num m cn k Hm.out hc hk9 (by omega))
        have h9 : ((k : Int) == 9) = true ∧ cn ≤ 1 ∨ ((k : Int) == 9) = false := by
          by_cases e : k = 9
          · exact .inl ⟨by simp; omega, by omega⟩
          · exact .inr (by simp; omega)
        by_cases h128 : cn < 128
        · by_cases hb1 : 0 < k ∧ cn = 0
          · have Hb1 := Lib.hid hb1
            have hc1 : ((cn : Int) == 0) = true := by simp; omega
            obtain ⟨hp, _⟩ := hb1
            clear hb2
            rcases h9 with ⟨h9, h91⟩ | h9
            all_goals
              go_wp2_with fail
              refine (fail_at b 4 w' hE hF).mono ?_
              rintro e w2 ⟨rfl, rfl⟩
              go_wp2
              go_ret
              exact Fin.out (.inl Hb1.out) _ rfl
          · have fin2 : ∀ v, v = Value.int .u64 ((m + cn % 128 * 2 ^ (7 * k) : Nat) : Int) → RdPost b w (.int .u64 (V.uintF l x).1) (V.uintF l x).2.1 (V.uintF l x).2.2 (Ending.returned v) w' := by
              intro v hv
              have hL : V.uintF l x = (m + cn % 128 * 2 ^ (7 * k), l2, 0) := by
                rw [Hu.out, V.uintL, Hq.out, if_neg (by simp), if_neg (by have := Hcn.out; dsimp only; omega), if_pos (by have := Hcn.out; dsimp only; omega), Hcn.out]
              subst hv
              exact ⟨by rw [hL], by rw [hL]; exact hr', ho.trans ho'⟩
            have Fin2 := Lib.hid fin2
            clear fin2 Fin
            by_cases h0 : 0 < k
            · have hcn0 : ((cn : Int) == 0) = false := by simp; omega
              clear hb1 hb2
              rcases h9 with ⟨h9, h91⟩ | h9
              all_goals
                go_wp2
                go_ret
                exact Fin2.out _ (congrArg (Value.int .u64) Hor.out)
            · clear hb1 hb2
              rcases h9 with ⟨h9, h91⟩ | h9
              all_goals
                go_wp2
                go_ret
                exact Fin2.out _ (congrArg (Value.int .u64) Hor.out)
        · have hne : ((k : Int) == 9) = false := by simp; omega
          have hrel : QRel b l x w (Value.int .u64 ((m + cn % 128 * 2 ^ (7 * k) : Nat) : Int)) (.int .i64 ((k + 1 : Nat) : Int)) w' := by
            have hfk := Hfk.out
            refine ⟨g, k + 1, m + cn % 128 * 2 ^ (7 * k), l2, 0, by omega, by omega, ?_, rfl, rfl, hr', ho.trans ho', ?_⟩
            · have h3 := Hm.out
              have h4 : cn % 128 * 2 ^ (7 * k) ≤ 127 * 2 ^ (7 * k) := Nat.mul_le_mul_right _ (by omega)
              rw [show 7 * (k + 1) = 7 * k + 7 from by omega, Nat.pow_add]
              omega
            · rw [Hu.out, V.uintL, Hq.out, if_neg (by simp), if_neg (by have := Hcn.out; dsimp only; omega), if_neg (by have := Hcn.out; dsimp only; omega), Hcn.out]
          have Hrel := Lib.hid hrel
          clear hrel Fin hb2 h9
          go_wp2
          go_roundw
          case rel => rw [Hor.out]; exact Hrel.out
          case measure => simp [intOf]; omega
    · have hy' : (y != 0) = true := by simpa using hy
      clear hy
      go_wp2
      go_ret
      have hL : V.uintF l x = (0, l2, y) := by
        rw [Hu.out, V.uintL, Hq.out, if_pos (by simpa using hy')]
      exact ⟨by rw [hL]; rfl, by rw [hL]; exact hr', ho.trans ho'⟩

set_option maxHeartbeats 400000 in
theorem qtext_at (b : Nat) (l : List UInt8) (x most : Int) (w : World) (h : Rd w b l x) (hmost : (Lit.int .i64 most).wf = true) : Calls Tryd.prog 57 #[.pointer (some ⟨b, 0, none⟩), .int .i64 most] w (RdPost b w (.string ⟨(V.textF l x most).1.toArray⟩) (V.textF l x most).2.1 (V.textF l x most).2.2) := by
  have hlt := V.uintF_lt l x
  unfold V.textF
  generalize hq : V.uintF l x = q at *
  obtain ⟨n, m, y⟩ := q
  have Hq := Lib.hid hq
  have Hlt := Lib.hid hlt
  clear hq hlt
  dsimp only
  by_cases hy : y = 0
  · subst hy
    rw [if_neg (by simp)]
    by_cases hneg : most < 0
    · rw [if_pos (.inl hneg)]
      go_enter Tryd.func57, Tryd.ntmps57
      go_wp2_with fail
      refine (quint_at b l x w h).mono ?_
      rw [Hq.out]
      rintro e w' ⟨rfl, hr, ho⟩
      dsimp only at *
      have hE := hr.err
      have hF := hr.free1
      go_wp2_with fail
      refine (fail_at b 7 w' hE hF).mono ?_
      rintro e w2 ⟨rfl, rfl⟩
      go_wp2
      go_ret
      exact ⟨rfl, hr.setErr 7, ho.trans (Only.setCell _ _ _ _)⟩
    · have hw : IntKind.u64.wrap most = most := by have := bounds_i64 hmost; rw [IntKind.wrap_u64]; omega
      obtain ⟨k, rfl⟩ := Int.eq_ofNat_of_zero_le (show 0 ≤ most by omega)
      by_cases hb : (k : Int) < (n : Int)
      · rw [if_pos (.inr hb)]
        have hb2 : k < n := by omega
        go_enter Tryd.func57, Tryd.ntmps57
        go_wp2_with fail
        refine (quint_at b l x w h).mono ?_
        rw [Hq.out]
        rintro e w' ⟨rfl, hr, ho⟩
        dsimp only at *
        have hE := hr.err
        have hF := hr.free1
        go_wp2_with fail
        refine (fail_at b 7 w' hE hF).mono ?_
        rintro e w2 ⟨rfl, rfl⟩
        go_wp2
        go_ret
        exact ⟨rfl, hr.setErr 7, ho.trans (Only.setCell _ _ _ _)⟩
      · rw [if_neg (by omega)]
        have hb2 : ¬ k < n := by omega
        have hcv : IntKind.i64.wrap (n : Int) = n := by have := bounds_i64 hmost; exact IntWalk.i64_in _ (by omega)
        go_enter Tryd.func57, Tryd.ntmps57
        go_wp2_with fail
        refine (quint_at b l x w h).mono ?_
        rw [Hq.out]
        rintro e w' ⟨rfl, hr, ho⟩
        dsimp only at *
        have hE := hr.err
        go_wp2_with fail
        refine (qraw_at b n m 0 w' hr).mono ?_
        rintro e w2 ⟨rfl, hr2, ho2⟩
        go_wp2
        go_ret
        exact ⟨rfl, hr2, ho.trans ho2⟩
  · rw [if_pos hy]
    have hy' : (y != 0) = true := by simpa using hy
    clear hy
    go_enter Tryd.func57, Tryd.ntmps57
    go_wp2_with fail
    refine (quint_at b l x w h).mono ?_
    rw [Hq.out]
    rintro e w' ⟨rfl, hr, ho⟩
    dsimp only at *
    have hE := hr.err
    go_wp2
    go_ret
    exact ⟨rfl, hr, ho⟩
end Go.Proofs.YtifcibmpeolmdaaDoor
