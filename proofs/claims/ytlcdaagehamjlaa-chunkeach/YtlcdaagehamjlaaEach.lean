/- Proved: ChunkEach: all chunks but the last one have the same size, none but the only one is empty, a greater mtu makes no more of them; for every text and number. Condition: none of our own. -/
import Derived.Test.YtlcdaagehamjlaaAw
import Derived.ProofKit
import Derived.ChangeOld
import Derived.ShutString
import Derived.SizedLaws
namespace Go.Proofs.Ytlcdaagehamjlaa.LChunkEach
open Go.RowKit

theorem wider {s : List UInt8} {m : Int} {k : Nat} (hk : sizeI m = k) (h1 : 45 ≤ k) (hl : s.length ≤ 256 * k) : cutE s (min (m + 1) 65535) = 0 ∧ (cutL s (min (m + 1) 65535)).length ≤ cnt k s.length := by
  have a1 := sizeI_cases m
  have a2 := sizeI_cases (min (m + 1) 65535)
  rcases cutE_cases s (min (m + 1) 65535) with ⟨h, _⟩ | ⟨j, h, _, _, h2, _⟩ | ⟨j, h, _, _, _, h2, hL, _⟩
  · omega
  · omega
  · refine ⟨h2, ?_⟩
    rw [hL, parts_len]
    exact cnt_wide (by omega) (by omega)
def EachRel (w : World) (N : Nat) (i : Value) (wr : World) : Prop := ∃ j : Nat, i = .int .i64 j ∧ j ≤ N ∧ wr = w

set_option maxRecDepth 100000 in
set_option maxHeartbeats 1000000 in
theorem walk (s : List UInt8) (m : Int) (w : World) (hs : s.length ≤ 9223372036854775807) (_hm : (Lit.int .i64 m).wf = true) :
    Calls Try.prog 5 #[.string ⟨s.toArray⟩, .int .i64 m] w fun e w' => e = .returned (.bool true) ∧ Keep w w' := by
  have HA := Lib.hid awake
  clear _hm
  by_cases hbig : 5000 < s.length
  · go_enter Try.func5, Try.ntmps5
    go_wp2_with fail
    refine (HA.out w).mono ?_
    rintro e w1 ⟨rfl, hK1⟩
    go_wp2_with fail
    refine (HA.out w1).mono ?_
    rintro e w2 ⟨rfl, hK2⟩
    have HK := Lib.hid (Keep.trans hK1 hK2)
    clear hK1 hK2
    go_wp2
    go_ret
    exact ⟨rfl, HK.out⟩
  · have H1 := Lib.hid (fun w => dcut s m w (by omega))
    by_cases hc : cutE s m = 0
    · obtain ⟨k, hk, h1, h2, h3, hL, h4⟩ : ∃ k : Nat, sizeI m = k ∧ 45 ≤ k ∧ k ≤ 1000 ∧ s.length ≤ 256 * k ∧ cutL s m = parts k s ∧ cnt k s.length ≤ 256 := by
        rcases cutE_cases s m with ⟨_, h, _⟩ | ⟨_, _, _, _, _, h, _⟩ | ⟨k, h, h1, h2, h3, _, hL, h4⟩
        · rw [hc] at h; exact absurd h (by decide)
        · rw [hc] at h; exact absurd h (by decide)
        · exact ⟨k, h, h1, h2, h3, hL, h4⟩
      obtain ⟨q1, q2⟩ := wider (s := s) hk h1 h3
      have H2 := Lib.hid (fun w => dcut s (min (m + 1) 65535) w (by omega))
      have hz := dsize m
      have hk0 : ¬ ((k : Nat) : Int) = 0 := by omega
      rw [hk, if_neg hk0] at hz
      have HZ := Lib.hid hz
      have hm1 : m ≤ 65535 := by rcases sizeI_cases m with h | h <;> omega
      have hm0 : 64 ≤ m := by rcases sizeI_cases m with h | h <;> omega
      rw [hc, hL] at H1
      rw [q1] at H2
      generalize cutL s (min (m + 1) 65535) = L2 at *
      obtain ⟨N, hN⟩ : ∃ N, cnt k s.length = N := ⟨_, rfl⟩
      have HP := Lib.hid (fun (i : Nat) (h : i < N) => parts_get (l := s) (k := k) (i := i) (by rw [hN]; exact h))
      have HQ := Lib.hid (fun (i : Nat) (h : i < N) => parts_size (l := s) (k := k) (i := i) (by rw [hN]; exact h) (by omega))
      have hNl : (parts k s).length = N := by rw [parts_len, hN]
      rw [hN] at q2 h4 HQ
      have HNl := Lib.hid hNl
      clear hc hk hL q1 hz hN hNl h3
      generalize parts k s = L at *
      obtain ⟨M, hM⟩ : ∃ M, L2.length = M := ⟨_, rfl⟩
      have HM := Lib.hid hM
      rw [hM] at q2
      clear hM
      go_enter Try.func5, Try.ntmps5
      go_wp2_with fail
      refine (HA.out w).mono ?_
      rintro e w1 ⟨rfl, hK1⟩
      go_wp2_with fail
      refine (H1.out w1).mono ?_
      rintro e w2 ⟨v1, rfl, hO1, hK2⟩
      have O1 := Lib.hid (OwnS.cells hO1)
      have HK := Lib.hid (Keep.trans hK1 hK2)
      obtain ⟨a1, c1, e1, _, _⟩ := O1.out.form
      subst e1
      rw [HNl.out]
      clear hO1 hK1 hK2
      go_wp2_with fail
      refine (HZ.out w2).mono ?_
      rintro e w2 ⟨rfl, rfl⟩
      go_wp2
      go_loopw [39] (fun i wr => EachRel w2 N i wr) (fun i _ => N - (intOf i).toNat)
      case atStart => exact ⟨0, rfl, Nat.zero_le _, rfl⟩
      case round =>
        obtain ⟨j, rfl, hj, rfl⟩ := hrel
        by_cases hlt : j < N
        · have hx := HP.out j hlt
          have hq := HQ.out j hlt
          generalize List.take k (List.drop (j * k) s) = x at *
          obtain ⟨r1, r2, r3⟩ := hq
          obtain ⟨g1, o1, cap1, e1, _, _, _⟩ := O1.out.ptr j (by rw [HNl.out]; exact hlt)
          simp at e1
          obtain ⟨rfl, rfl⟩ := e1
          have hcell := O1.out.txt j x hx
          clear hx
          by_cases hlast : j + 1 < N
          · have hxk : ((x.length : Int) != (k : Int)) = false := by simp [r2 hlast]
            have hne : ((x.length : Int) == 0) = false := beq_eq_false_iff_ne.2 (by have := r2 hlast; omega)
            clear r2 r3
            go_wp2
            go_roundw
            case rel => exact ⟨j + 1, by go_num, by omega, rfl⟩
            case measure => simp [intOf]; omega
          · by_cases h1N : 1 < N
            · have hne : ((x.length : Int) == 0) = false := beq_eq_false_iff_ne.2 (by have := r3 h1N; omega)
              clear r2 r3
              go_wp2
              go_roundw
              case rel => exact ⟨j + 1, by go_num, by omega, rfl⟩
              case measure => simp [intOf]; omega
            · clear r2 r3
              by_cases hx0 : x.length = 0
              · have hne : ((x.length : Int) == 0) = true := beq_iff_eq.2 (by omega)
                have HX0 := Lib.hid hx0
                clear hx0
                go_wp2
                go_roundw
                case rel => exact ⟨j + 1, by go_num, by omega, rfl⟩
                case measure => simp [intOf]; omega
              · have hne : ((x.length : Int) == 0) = false := beq_eq_false_iff_ne.2 (by omega)
                have HX0 := Lib.hid hx0
                clear hx0
                go_wp2
                go_roundw
                case rel => exact ⟨j + 1, by go_num, by omega, rfl⟩
                case measure => simp [intOf]; omega
        · go_wp2_with fail
          refine (H2.out _).mono ?_
          rintro e w3 ⟨v2, rfl, hO2, hK3⟩
          obtain ⟨a2, c2, e2, _, _⟩ := (OwnS.cells hO2).form
          subst e2
          have HK := Lib.hid (Keep.trans HK.out hK3)
          rw [HM.out]
          clear hO2 hK3
          go_wp2
          go_ret
          exact ⟨rfl, HK.out⟩
    · have hcn : (cutE s m != 0) = true := by simpa using hc
      have hL : cutL s m = [] := by unfold cutL; rw [if_neg hc]
      rw [hL] at H1
      clear hc hL
      generalize cutE s m = c at *
      go_enter Try.func5, Try.ntmps5
      go_wp2_with fail
      refine (HA.out w).mono ?_
      rintro e w1 ⟨rfl, hK1⟩
      go_wp2_with fail
      refine (H1.out w1).mono ?_
      rintro e w2 ⟨v1, rfl, hO1, hK2⟩
      obtain ⟨a1, c1, e1, _, _⟩ := (OwnS.cells hO1).form
      subst e1
      have HK := Lib.hid (Keep.trans hK1 hK2)
      clear hO1 hK1 hK2
      go_wp2
      go_ret
      exact ⟨rfl, HK.out⟩

open Go.ChangeShapes Go.WideShapes Go.ChangeAt
theorem own : ownKnob Try.prog.godebug = none := by kernel_rfl
theorem laidOut : laidOutB Try.prog = true := by kernel_rfl

set_option maxRecDepth 100000 in
theorem lifted (os : Os) (started : os.Started) (H : Type) (enc : TypeId × Value → H) :
    ReturnsInHanded {} Try.checked os 5 .any (Rows.chunkEachSpec.pre6 enc Try.prog Try.f5 Rows.chunkEachRow.domain false) (Rows.chunkEachSpec.post enc Try.prog Try.f5 false true false false) := by
  refine returnsInHanded_of_change (C := Try.checked) own started (by kernel_rfl) Try.func5
    (ChangeSpec.witness6 (enc := enc) (C := Try.checked) false ⟨#[], #[.string ⟨#[]⟩, .int .i64 0], []⟩ 8 (by kernel_rfl) (by kernel_rfl) (by kernel_rfl) (by kernel_rfl)) ?_
  intro W base args ds gs before hval0 hW hcnd _
  have hval : ∀ (j : Nat) t v, Try.f5.params[j]? = some t → args[j]? = some v → Value.okWide Try.prog W .any base t v := hval0
  have hW' := hW
  obtain ⟨p, q, hA0, hV, rfl, hfz, hnd⟩ := hW
  have hA : DataW.TrodAll enc Try.prog W 0 (fun _ => true) true Try.f5.params.toList args.toList ds p := hA0

  rw [Try.params5] at hA hval
  obtain ⟨v0, vs0, d0, ds0, p0, q0, hargs, rfl, rfl, h0, r0⟩ := trodAll_cons hA
  obtain ⟨v1, vs1, d1, ds1, p1, q1, rfl, rfl, rfl, h1, r1⟩ := trodAll_cons r0
  obtain ⟨rfl, rfl, rfl⟩ := trodAll_nil r1
  obtain rfl : args = #[v0, v1] := by cases args; simp_all
  obtain ⟨rfl, rfl⟩ := trodVars_none hV
  have k0 := h0
  have lt0 : ∀ x ∈ p0, x.block < W.heap.size := by obtain ⟨m, hm⟩ := k0; exact DataW.trod_lt m _ _ _ hm
  have k1 := h1
  have lt1 : ∀ x ∈ p1, x.block < W.heap.size := by obtain ⟨m, hm⟩ := k1; exact DataW.trod_lt m _ _ _ hm
  obtain ⟨a0, rfl, _, _, w0⟩ := Go.ChangeMaps.open_string Try.underlying9 (hval 0 9 v0 rfl rfl) h0
  obtain ⟨a1, rfl, _, _, w1⟩ := open_int Try.underlying3 (hval 1 3 v1 rfl rfl) h1
  clear hA0 hval0
  refine (walk a0.data.toList a1 W (by simpa [maxLen] using w0) w1).mono fun e W' ⟨he, bel⟩ => ?_
  subst he
  exact ⟨_, rfl, _, _, _, [], _, [], hW', trodAll_mk1 (shut_bool Try.underlying4 _), (trodAll_cons_mk (Below.trod laidOut (by kernel_rfl) (of_decide_eq_true (by kernel_rfl)) k0 bel lt0) (trodAll_cons_mk (Below.trod laidOut (by kernel_rfl) (of_decide_eq_true (by kernel_rfl)) k1 bel lt1) trodAll_mk0)), rfl, bel.frame _, fun h => by cases h⟩

theorem over : Rows.chunkEachRow.holds Try.pinned (OpenSpec.ofChange Rows.chunkEachSpec) :=
  OpenClaim.holds_of_wide 5 Try.f5 rfl rfl rfl rfl rfl rfl rfl ⟨rfl, rfl, rfl, rfl, rfl⟩ rfl rfl rfl rfl rfl (by kernel_rfl) Try.func5 (by kernel_rfl)
    (of_decide_eq_true (by kernel_rfl)) (by unfold Func.isWrapper; first | (rw [if_pos (by decide +kernel)]; kernel_rfl) | (rw [if_neg (by decide +kernel)]; exact ⟨rfl, rfl⟩))
    (fun os started H enc _ => lifted os started H enc)
end Go.Proofs.Ytlcdaagehamjlaa.LChunkEach

namespace Go.Proofs.Ytlcdaagehamjlaa
theorem chunkEach_holds : Rows.ChunkEachSaid := LChunkEach.over
#print axioms chunkEach_holds
end Go.Proofs.Ytlcdaagehamjlaa

