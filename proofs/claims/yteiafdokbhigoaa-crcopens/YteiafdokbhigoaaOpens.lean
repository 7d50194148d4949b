/- Proved: for every text and byte the law CrcOpens returns true (what is opened, sealed again, is what was opened; sealed bytes of which one is turned are not opened), and its arguments read behind the call as they read before. No condition. -/
import Derived.Test.YteiafdokbhigoaaE
import Derived.ProofKit
import Derived.ShutString
import Derived.ChangeOld
namespace Go.Proofs.Yteiafdokbhigoaa.LCrcOpens
open Go.RowKit

theorem xorB (c : UInt8) (b : Nat) (hb : b < 256) : bits .xor .u8 (c.toNat : Int) (1 + (b : Int) / 2) = ((c.toNat ^^^ 1 + b / 2 : Nat) : Int) := by
  have h := u8_xor_nat c.toNat (1 + b / 2) c.toNat_lt (by omega)
  rw [show (1 + (b : Int) / 2) = ((1 + b / 2 : Nat) : Int) by omega]
  exact h
theorem backN {w : World} {b : Nat} {l : List UInt8} (h : Bytes w b l) (n cap : Nat) (hn : l.length = n) : (convert 40 9 (.slice (some ⟨b, 0, none⟩) n cap)).run Try.prog w = .ok (.string ⟨l.toArray⟩) w := by
  subst hn
  exact h.back cap
theorem bit_of : ∀ c, c < 256 → c ≠ 0 → ∃ i, i < 8 ∧ c.testBit i = true := by decide +kernel

set_option maxRecDepth 100000 in
set_option maxHeartbeats 400000 in
theorem walk (s : List UInt8) (b : Nat) (w : World) (hs : s.length ≤ 9223372036854775807) (hb : b < 256) :
    Calls Try.prog 9 #[.string ⟨s.toArray⟩, .int .u8 b] w fun e w' => e = .returned (.bool true) ∧ Below w.heap.size w w' := by
  by_cases hl : 2000 < s.length
  · skip
    go_enter Try.func9, Try.ntmps9
    go_wp2_with fail
    refine (awake w).mono ?_
    rintro e w1 ⟨rfl, b1⟩
    go_wp2_with fail
    refine (awake w1).mono ?_
    rintro e w2 ⟨rfl, b2⟩
    go_wp2
    go_ret
    exact ⟨rfl, b1.trans b2⟩
  · have c12 := Lib.hid (opened s (by omega))
    unfold openV at c12
    have c13 := Lib.hid (sealed s (by omega))
    have hlen := K.sealB_len s
    obtain ⟨j, hj⟩ : ∃ j, j = b % (s.length + 4) := ⟨_, rfl⟩
    have hjl : j < s.length + 4 := by rw [hj]; exact Nat.mod_lt _ (by omega)
    have hji : (b : Int).tmod ((s.length : Int) + 4) = (j : Int) := by
      rw [Int.tmod_eq_emod_of_nonneg (by omega), hj]
      simp
    clear hj
    obtain ⟨i, hi8, hi⟩ := bit_of (1 + b / 2) (by omega) (by omega)
    have c12b := Lib.hid (opened (K.xorN (K.sealB s) (2 ^ (8 * j) * (1 + b / 2))) (by rw [K.xorN_len]; omega))
    unfold openV at c12b
    rw [K.open_burst s (8 * j) (1 + b / 2) i (by omega) hi (by omega)] at c12b
    have Hset := Lib.hid (K.xorN_set (1 + b / 2) (by omega) (K.sealB s) j (by omega))
    clear hi
    by_cases h0 : (K.openB s).2 = 0
    · have c13t := Lib.hid (sealed (K.openB s).1 (by
        have := congrArg List.length (K.open_ok s h0)
        rw [K.sealB_len] at this
        omega))
      rw [K.open_ok s h0] at c13t
      rw [h0] at c12
      generalize (K.openB s).1 = t at *
      clear h0
      go_enter Try.func9, Try.ntmps9
      go_wp2_with fail
      refine (awake w).mono ?_
      rintro e w1 ⟨rfl, b1⟩
      go_wp2_with fail
      refine (c12.out w1).mono ?_
      rintro e w2 ⟨rfl, b2⟩
      go_wp2_with fail
      refine (c13t.out w2).mono ?_
      rintro e w3 ⟨rfl, b3⟩
      go_wp2_with fail
      refine (c13.out w3).mono ?_
      rintro e w4 ⟨rfl, b4⟩
      obtain ⟨cap, w5, hcv, hby, b5⟩ := bytes_new (K.sealB s) w4
      have HB := Lib.hid hby
      have BB := Lib.hid (And.intro ((((b1.trans b2).trans b3).trans b4).trans b5) (((b1.trans b2).trans b3).trans b4).size)
      clear b1 b2 b4 b5 hby b3
      rw [hlen] at hcv
      have hcell := HB.out.cell j (by omega)
      have hfree := HB.out.free j (by omega)
      have hx := xorB (K.sealB s)[j] b hb
      have HB3 := HB.out.set j (by omega) ((K.sealB s)[j].toNat ^^^ 1 + b / 2) (Nat.xor_lt_two_pow (n := 8) (UInt8.toNat_lt _) (by omega))
      rw [Hset.out] at HB3
      have hbk := backN HB3 (s.length + 4) cap (by rw [K.xorN_len, hlen])
      have BB3 := Lib.hid (BB.out.1.setCell w4.heap.size j (.int .u8 ((K.sealB s)[j].toNat ^^^ 1 + b / 2 : Nat)) BB.out.2)
      clear HB3
      generalize K.xorN (K.sealB s) (2 ^ (8 * j) * (1 + b / 2)) = y at *
      go_wp2_with fail
      refine (c12b.out _).mono ?_
      rintro e w6 ⟨rfl, b6⟩
      go_wp2
      go_ret
      exact ⟨rfl, BB3.out.trans b6⟩
    · have h0b : ((K.openB s).2 == 0) = false := beq_eq_false_iff_ne.2 h0
      generalize (K.openB s).1 = t at *
      generalize (K.openB s).2 = x at *
      clear h0
      go_enter Try.func9, Try.ntmps9
      go_wp2_with fail
      refine (awake w).mono ?_
      rintro e w1 ⟨rfl, b1⟩
      go_wp2_with fail
      refine (c12.out w1).mono ?_
      rintro e w2 ⟨rfl, b2⟩
      go_wp2_with fail
      refine (c13.out w2).mono ?_
      rintro e w4 ⟨rfl, b4⟩
      obtain ⟨cap, w5, hcv, hby, b5⟩ := bytes_new (K.sealB s) w4
      have HB := Lib.hid hby
      have BB := Lib.hid (And.intro (((b1.trans b2).trans b4).trans b5) ((b1.trans b2).trans b4).size)
      clear b1 b2 b4 b5 hby
      rw [hlen] at hcv
      have hcell := HB.out.cell j (by omega)
      have hfree := HB.out.free j (by omega)
      have hx := xorB (K.sealB s)[j] b hb
      have HB3 := HB.out.set j (by omega) ((K.sealB s)[j].toNat ^^^ 1 + b / 2) (Nat.xor_lt_two_pow (n := 8) (UInt8.toNat_lt _) (by omega))
      rw [Hset.out] at HB3
      have hbk := backN HB3 (s.length + 4) cap (by rw [K.xorN_len, hlen])
      have BB3 := Lib.hid (BB.out.1.setCell w4.heap.size j (.int .u8 ((K.sealB s)[j].toNat ^^^ 1 + b / 2 : Nat)) BB.out.2)
      clear HB3
      generalize K.xorN (K.sealB s) (2 ^ (8 * j) * (1 + b / 2)) = y at *
      go_wp2_with fail
      refine (c12b.out _).mono ?_
      rintro e w6 ⟨rfl, b6⟩
      go_wp2
      go_ret
      exact ⟨rfl, BB3.out.trans b6⟩

open Go.ChangeShapes Go.WideShapes Go.ChangeAt
theorem own : ownKnob Try.prog.godebug = none := by kernel_rfl
theorem laidOut : laidOutB Try.prog = true := by kernel_rfl

set_option maxRecDepth 100000 in
theorem lifted (os : Os) (started : os.Started) (H : Type) (enc : TypeId × Value → H) :
    ReturnsInHanded {} Try.checked os 9 .any (Rows.crcOpensSpec.pre6 enc Try.prog Try.f9 Rows.crcOpensRow.domain false) (Rows.crcOpensSpec.post enc Try.prog Try.f9 false true false false) := by
  refine returnsInHanded_of_change (C := Try.checked) own started (by kernel_rfl) Try.func9
    (ChangeSpec.witness6 (enc := enc) (C := Try.checked) false ⟨#[], #[.string ⟨#[]⟩, .int .u8 0], []⟩ 8 (by kernel_rfl) (by kernel_rfl) (by kernel_rfl) (by kernel_rfl)) ?_
  intro W base args ds gs before hval0 hW hcnd _
  have hval : ∀ (j : Nat) t v, Try.f9.params[j]? = some t → args[j]? = some v → Value.okWide Try.prog W .any base t v := hval0
  have hW' := hW
  obtain ⟨p, q, hA0, hV, rfl, hfz, hnd⟩ := hW
  have hA : DataW.TrodAll enc Try.prog W 0 (fun _ => true) true Try.f9.params.toList args.toList ds p := hA0

  rw [Try.params9] at hA hval
  obtain ⟨v0, vs0, d0, ds0, p0, q0, hargs, rfl, rfl, h0, r0⟩ := trodAll_cons hA
  obtain ⟨v1, vs1, d1, ds1, p1, q1, rfl, rfl, rfl, h1, r1⟩ := trodAll_cons r0
  obtain ⟨rfl, rfl, rfl⟩ := trodAll_nil r1
  obtain rfl : args = #[v0, v1] := by cases args; simp_all
  obtain ⟨rfl, rfl⟩ := trodVars_none hV
  have k0 := h0
  have lt0 : ∀ x ∈ p0, x.block < W.heap.size := by obtain ⟨m, hm⟩ := k0; exact DataW.trod_lt m _ _ _ hm
  have k1 := h1
  have lt1 : ∀ x ∈ p1, x.block < W.heap.size := by obtain ⟨m, hm⟩ := k1; exact DataW.trod_lt m _ _ _ hm
  obtain ⟨a0, rfl, _, _, w0⟩ := Go.ChangeMaps.open_string Try.underlying9 (hval 0 9 v0 rfl rfl) h0
  obtain ⟨a1, rfl, _, _, w1⟩ := open_int Try.underlying5 (hval 1 5 v1 rfl rfl) h1
  have u1 := bounds_u8 w1
  obtain ⟨a1, rfl⟩ := Int.eq_ofNat_of_zero_le u1.1
  clear hA0 hval0
  refine (walk a0.data.toList a1 W (by simpa [maxLen] using w0) (by omega)).mono fun e W' ⟨he, bel⟩ => ?_
  subst he
  exact ⟨_, rfl, _, _, _, [], _, [], hW', trodAll_mk1 (shut_bool Try.underlying4 _), (trodAll_cons_mk (Below.trod laidOut (by kernel_rfl) (of_decide_eq_true (by kernel_rfl)) k0 bel lt0) (trodAll_cons_mk (Below.trod laidOut (by kernel_rfl) (of_decide_eq_true (by kernel_rfl)) k1 bel lt1) trodAll_mk0)), rfl, bel.frame _, fun h => by cases h⟩

theorem over : Rows.crcOpensRow.holds Try.pinned (OpenSpec.ofChange Rows.crcOpensSpec) :=
  OpenClaim.holds_of_wide 9 Try.f9 rfl rfl rfl rfl rfl rfl rfl ⟨rfl, rfl, rfl, rfl, rfl⟩ rfl rfl rfl rfl rfl (by kernel_rfl) Try.func9 (by kernel_rfl)
    (of_decide_eq_true (by kernel_rfl)) (by unfold Func.isWrapper; first | (rw [if_pos (by decide +kernel)]; kernel_rfl) | (rw [if_neg (by decide +kernel)]; exact ⟨rfl, rfl⟩))
    (fun os started H enc _ => lifted os started H enc)
end Go.Proofs.Yteiafdokbhigoaa.LCrcOpens

namespace Go.Proofs.Yteiafdokbhigoaa
theorem crcOpens_holds : Rows.CrcOpensSaid := LCrcOpens.over
#print axioms crcOpens_holds
end Go.Proofs.Yteiafdokbhigoaa

