/- Proved: for every Op the law VarintNil returns true (a writer, or a reader, that is none does nothing), and its argument reads behind the call as it read before. No condition. -/
import Derived.Test.YtppfejkkfgjikaaE
import Derived.ProofKit
import Derived.ShutString
import Derived.ChangeOld
import Derived.Lib.SmallJoins
namespace Go.Proofs.Ytppfejkkfgjikaa.LNil
open Go.RowKit

/-- The box of the argument. -/
structure OpAt (w : World) (b : Nat) (n : Int) (u : Nat) (s : List UInt8) : Prop where
  n : w.cell? ⟨b, 1, none⟩ = some (.int .i64 n)
  u : w.cell? ⟨b, 2, none⟩ = some (.int .u64 u)
  s : w.cell? ⟨b, 3, none⟩ = some (.string ⟨s.toArray⟩)
  lt : b < w.heap.size
theorem OpAt.below {w w' : World} {b : Nat} {n : Int} {u : Nat} {s : List UInt8} (h : OpAt w b n u s) (k : Below w.heap.size w w') : OpAt w' b n u s :=
  ⟨(k.cell h.lt).trans h.n, (k.cell h.lt).trans h.u, (k.cell h.lt).trans h.s, Nat.lt_of_lt_of_le h.lt k.size⟩
def Boxed (kd n : Int) (u : Nat) (s : List UInt8) (w : World) : World := w.alloc (.cells #[.int .i64 kd, .int .i64 n, .int .u64 u, .string ⟨s.toArray⟩] 29)
theorem Boxed.at (kd n : Int) (u : Nat) (s : List UInt8) (w : World) : OpAt (Boxed kd n u s w) w.heap.size n u s := by
  unfold Boxed
  exact ⟨by go_simp, by go_simp, by go_simp, by simp⟩
theorem Boxed.below (kd n : Int) (u : Nat) (s : List UInt8) (w : World) : Below w.heap.size w (Boxed kd n u s w) := (Below.refl _ _).alloc (Nat.le_refl _) _

set_option maxHeartbeats 1000000 in
theorem walk (kd n : Int) (u : Nat) (s : List UInt8) (w : World) (hn : (Lit.int .i64 n).wf = true) (hu : u < 2 ^ 64) (hs : s.length ≤ 9223372036854775807) :
    Calls Try.prog 6 #[.agg #[.int .i64 kd, .int .i64 n, .int .u64 u, .string ⟨s.toArray⟩]] w fun e w' => e = .returned (.bool true) ∧ Below w.heap.size w w' := by
  have Hu := Lib.hid hu
  clear hu
  have a0 := Boxed.at kd n u s w
  have b0 := Boxed.below kd n u s w
  go_enter Try.func6, Try.ntmps6
  go_wp2_with fail
  refine (wbyte_nil 1 (Boxed kd n u s w)).mono ?_
  rintro e w1 ⟨rfl, k1⟩
  have b1 := bMore b0 k1 (Nat.le_refl _)
  have a1 := a0.below k1
  have c1 := a1.u
  clear a0 b0 k1
  go_wp2_with fail
  refine (wuint_nil u w1 Hu.out).mono ?_
  rintro e w2 ⟨rfl, k2⟩
  have b2 := bMore b1 k2 (Nat.le_refl _)
  have a2 := a1.below k2
  have c2 := a2.n
  clear a1 b1 k2 c1
  go_wp2_with fail
  refine (wint_nil n w2 hn).mono ?_
  rintro e w3 ⟨rfl, k3⟩
  have b3 := bMore b2 k3 (Nat.le_refl _)
  have a3 := a2.below k3
  have c3 := a3.s
  clear a2 b2 k3 c2
  go_wp2_with fail
  refine (wtext_nil s w3 hs).mono ?_
  rintro e w4 ⟨rfl, k4⟩
  have b4 := bMore b3 k4 (Nat.le_refl _)
  have a4 := a3.below k4
  have c4 := a4.s
  clear a3 b3 k4 c3
  go_wp2_with fail
  refine (wraw_nil _ w4).mono ?_
  rintro e w5 ⟨rfl, rfl⟩
  go_wp2_with fail
  refine (awake_at w4).mono ?_
  rintro e w5 ⟨rfl, k5⟩
  have b5 := bMore b4 k5 (Nat.le_refl _)
  have a5 := a4.below k5
  have c5 := a5.n
  clear a4 b4 k5 c4
  go_wp2_with fail
  refine (wstring_nil w5).mono ?_
  rintro e w6 ⟨rfl, rfl⟩
  go_wp2_with fail
  refine (byte_nil w5).mono ?_
  rintro e w6 ⟨rfl, rfl⟩
  go_wp2_with fail
  refine (uint_nil w5).mono ?_
  rintro e w6 ⟨rfl, rfl⟩
  go_wp2_with fail
  refine (int_nil w5).mono ?_
  rintro e w6 ⟨rfl, rfl⟩
  go_wp2_with fail
  refine (text_nil n w5).mono ?_
  rintro e w6 ⟨rfl, rfl⟩
  go_wp2_with fail
  refine (raw_nil n w5).mono ?_
  rintro e w6 ⟨rfl, rfl⟩
  go_wp2_with fail
  refine (left_nil w5).mono ?_
  rintro e w6 ⟨rfl, rfl⟩
  go_wp2_with fail
  refine (err_nil w5).mono ?_
  rintro e w6 ⟨rfl, rfl⟩
  go_wp2_with fail
  refine (done_nil w5).mono ?_
  rintro e w6 ⟨rfl, rfl⟩
  go_wp2
  go_ret
  exact ⟨rfl, b5⟩

open Go.ChangeShapes Go.WideShapes Go.ChangeAt Go.Joins
theorem own : ownKnob Try.prog.godebug = none := by kernel_rfl
theorem laidOut : laidOutB Try.prog = true := by kernel_rfl
theorem cells29 : Try.prog.cellsOf 29 = 4 := by kernel_rfl

set_option maxRecDepth 100000 in
theorem lifted (os : Os) (started : os.Started) (H : Type) (enc : TypeId × Value → H) :
    ReturnsInHanded {} Try.checked os 6 .any (Rows.varintNilSpec.pre6 enc Try.prog Try.f6 Rows.varintNilRow.domain false) (Rows.varintNilSpec.post enc Try.prog Try.f6 false true false false) := by
  refine returnsInHanded_of_change (C := Try.checked) own started (by kernel_rfl) Try.func6
    (ChangeSpec.witness6 (enc := enc) (C := Try.checked) false ⟨#[], #[.agg #[.int .i64 0, .int .i64 0, .int .u64 0, .string ⟨#[]⟩]], []⟩ 8 (by kernel_rfl) (by kernel_rfl) (by kernel_rfl) (by kernel_rfl)) ?_
  intro W base args ds gs before hval0 hW hcnd _
  have hval : ∀ (j : Nat) t v, Try.f6.params[j]? = some t → args[j]? = some v → Value.okWide Try.prog W .any base t v := hval0
  have hW' := hW
  obtain ⟨p, q, hA0, hV, rfl, hfz, hnd⟩ := hW
  have hA : DataW.TrodAll enc Try.prog W 0 (fun _ => true) true Try.f6.params.toList args.toList ds p := hA0
  rw [Try.params6] at hA hval
  obtain ⟨v0, vs0, d0, ds0, p0, q0, hargs, rfl, rfl, h0, r0⟩ := trodAll_cons hA
  obtain ⟨rfl, rfl, rfl⟩ := trodAll_nil r0
  obtain rfl : args = #[v0] := by cases args; simp_all
  obtain ⟨rfl, rfl⟩ := trodVars_none hV
  have k0 := h0
  have lt0 : ∀ x ∈ p0, x.block < W.heap.size := by obtain ⟨m, hm⟩ := k0; exact DataW.trod_lt m _ _ _ hm
  obtain ⟨c0, c1, c2, c3, y0, y1, y2, y3, m, rfl, rfl, rfl, g0, g1, g2, g3⟩ := open_agg4 Try.underlying29 (by kernel_rfl) cells29 (hval 0 29 v0 rfl rfl) h0
  obtain ⟨kd, e0, _, _⟩ := DataW.trod_int Try.underlying3 g0
  obtain ⟨n, e1, _, hn⟩ := DataW.trod_int Try.underlying3 g1
  obtain ⟨u, e2, _, hu⟩ := DataW.trod_int Try.underlying27 g2
  obtain ⟨s, e3, _, hs⟩ := DataW.trod_string Try.underlying9 g3
  simp at e0 e1 e2 e3
  subst e0 e1 e2 e3
  have hub := bounds_u64 hu
  obtain ⟨u, rfl⟩ := Int.eq_ofNat_of_zero_le hub.1
  clear hA0 hval0
  refine (walk kd n u s.data.toList W hn (by omega) (by simpa [maxLen] using hs)).mono fun e W' ⟨he, bel⟩ => ?_
  subst he
  exact ⟨_, rfl, _, _, _, [], _, [], hW', trodAll_mk1 (shut_bool Try.underlying4 _), (trodAll_cons_mk (Below.trod laidOut (by kernel_rfl) (of_decide_eq_true (by kernel_rfl)) k0 bel lt0) trodAll_mk0), rfl, bel.frame _, fun h => by cases h⟩

theorem over : Rows.varintNilRow.holds Try.pinned (OpenSpec.ofChange Rows.varintNilSpec) :=
  OpenClaim.holds_of_wide 6 Try.f6 rfl rfl rfl rfl rfl rfl rfl ⟨rfl, rfl, rfl, rfl, rfl⟩ rfl rfl rfl rfl rfl (by kernel_rfl) Try.func6 (by kernel_rfl)
    (of_decide_eq_true (by kernel_rfl)) (by unfold Func.isWrapper; first | (rw [if_pos (by decide +kernel)]; kernel_rfl) | (rw [if_neg (by decide +kernel)]; exact ⟨rfl, rfl⟩))
    (fun os started H enc _ => lifted os started H enc)
end Go.Proofs.Ytppfejkkfgjikaa.LNil

namespace Go.Proofs.Ytppfejkkfgjikaa
theorem varintNil_holds : Rows.VarintNilSaid := LNil.over
#print axioms varintNil_holds
end Go.Proofs.Ytppfejkkfgjikaa
