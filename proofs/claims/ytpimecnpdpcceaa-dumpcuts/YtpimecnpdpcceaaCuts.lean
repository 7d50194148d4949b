/- Proved: DumpCuts: a dump that is cut off anywhere, or with more behind it, is none. Condition: none of our own. -/
import Derived.Test.YtpimecnpdpcceaaLw
import Derived.SizedLaws
namespace Go.Proofs.Ytpimecnpdpcceaa.LDumpCuts
open Go.RowKit

set_option maxRecDepth 100000 in
set_option maxHeartbeats 1000000 in
theorem walk (a : Option Addr) (cap : Nat) (l : List Rt) (cut : Int) (more : List UInt8) (w : World) (hA : ArgN rl w a cap l) (hq : ∀ r ∈ l, Sq r) (_hcut : (Lit.int .i64 cut).wf = true) (hmore : more.length ≤ 9223372036854775807) :
    Calls Try.prog 4 #[.slice a l.length cap, .int .i64 cut, .string ⟨more.toArray⟩] w fun e w' => e = .returned (.bool true) ∧ Keep w w' := by
  have HAw := Lib.hid awake
  have hms : (⟨more.toArray⟩ : ByteArray).size = more.length := by simp [ByteArray.size]
  have hsm := hA.small
  have HA := Lib.hid hA
  have HQ := Lib.hid hq
  obtain ⟨N, hN⟩ : ∃ N, l.length = N := ⟨_, rfl⟩
  have HN := Lib.hid hN
  rw [hN] at hsm ⊢
  clear hA hq hN
  unfold maxLen at hsm
  by_cases hbig : N > 300 ∨ more.length > 100 ∨ more = []
  · go_enter Try.func4, Try.ntmps4
    go_wp2_with fail
    refine (HAw.out _).mono ?_
    rintro e w1 ⟨rfl, k1⟩
    have HK1 := Lib.hid k1
    clear k1
    by_cases h1 : N > 300
    · have h1i : (N : Int) > 300 := by omega
      go_wp2_with fail
      refine (HAw.out _).mono ?_
      rintro e w2 ⟨rfl, k2⟩
      go_wp2
      go_ret
      exact ⟨rfl, HK1.out.trans k2⟩
    · have h1i : ¬ (N : Int) > 300 := by omega
      by_cases h2 : more.length > 100
      · have h2i : (more.length : Int) > 100 := by omega
        go_wp2_with fail
        refine (HAw.out _).mono ?_
        rintro e w2 ⟨rfl, k2⟩
        go_wp2
        go_ret
        exact ⟨rfl, HK1.out.trans k2⟩
      · have h2i : ¬ (more.length : Int) > 100 := by omega
        have h3 : more = [] := by
          rcases hbig with h | h | h
          · exact absurd h h1
          · exact absurd h h2
          · exact h
        subst h3
        go_wp2_with fail
        refine (HAw.out _).mono ?_
        rintro e w2 ⟨rfl, k2⟩
        go_wp2
        go_ret
        exact ⟨rfl, HK1.out.trans k2⟩
  · have h1 : ¬ (N : Int) > 300 := by omega
    have h2 : ¬ (more.length : Int) > 100 := by omega
    have h3 : ¬ more = [] := fun h => hbig (.inr (.inr h))
    have h3e : more.isEmpty = false := by cases more <;> simp_all
    have h3b : ((⟨more.toArray⟩ : ByteArray) == ⟨#[]⟩) = false := by
      rw [Bool.eq_false_iff]
      intro h
      rw [MapKept.bytes_beq] at h
      simp at h
      exact h3 h
    have HSL := Lib.hid slice_no
    go_enter Try.func4, Try.ntmps4
    go_wp2_with fail
    refine (HAw.out _).mono ?_
    rintro e w1 ⟨rfl, k1⟩
    have HK1 := Lib.hid k1
    have HA1 := Lib.hid ((HA.out.keep k1).keep ((Keep.refl w1).alloc (.cells #[] 43)))
    have HO1 := Lib.hid (Own.made (t := 43) (k := 20) (enc := rl) w1.heap.size w1 (Nat.le_refl _))
    clear k1
    go_wp2_with (first | (refine at_slice [] rfl _ (HSL.out _) ?_) | (at_builtin; refine wp_appN elR rfl _ _ rfl w1.heap.size _ a N cap [] l rfl HN.out rfl HO1.out HA1.out ?q1 ?q2 ?q3 ?_))
    case q1 => rw [HN.out]; simp; omega
    case q2 => rw [HN.out]; simp; omega
    case q3 => simp
    intro v2 w2 o2 g2
    have HK2 := Lib.hid (HO1.out.grown ((Keep.refl w1).alloc _) (Nat.le_refl _) g2)
    have HNw := Lib.hid (new v2 l w2 (o2.row elR).cells (by rw [HN.out]; omega))
    clear o2 g2
    go_wp2_with fail
    refine HNw.out.mono ?_
    rintro e w3 ⟨p, rfl, k3, ⟨h0, rfl⟩ | ⟨h0, b, l', rfl, _, hperm, htb⟩⟩
    · have h0b : (newE l != 0) = true := by simpa using h0
      have HK3 := Lib.hid ((HK1.out.trans HK2.out).trans k3)
      clear k3
      go_wp2
      go_ret
      exact ⟨rfl, HK3.out⟩
    · rw [h0]
      have HRok := Lib.hid (rok_of h0 hperm HQ.out)
      have hfew := htb.few
      have HD := Lib.hid (okD_tab htb.sorted HRok.out)
      have HSh := Lib.hid (dump_short l' hfew HRok.out)
      have HPr := Lib.hid (dprint (.pointer (some ⟨b, 0, none⟩)) l' w3 (.inr ⟨b, rfl, htb⟩) HRok.out)
      have HPos := Lib.hid (dump_pos (l'.map rwOf))
      have HCut := Lib.hid (fun j hj => Dm.d_cut HD.out (by rw [List.length_map]; exact hfew) j hj)
      have HMore := Lib.hid (show Dm.readD codP (Dm.dumpL codP (l'.map rwOf) ++ more) = .error 4 from by rw [Dm.d_more HD.out (by rw [List.length_map]; exact hfew), if_neg h3])
      have HK3 := Lib.hid ((HK1.out.trans HK2.out).trans k3)
      generalize Dm.dumpL codP (l'.map rwOf) = D at *
      clear k3 htb hperm HRok HD HNw
      have hDs : (⟨D.toArray⟩ : ByteArray).size = D.length := by simp [ByteArray.size]
      have hD0 : 0 < D.length := HPos.out
      have hDl : D.length ≤ 65536 := HSh.out
      obtain ⟨U, hU⟩ : ∃ U : Nat, IntKind.u64.wrap cut = U := ⟨(IntKind.u64.wrap cut).toNat, by rw [IntKind.wrap_u64]; omega⟩
      obtain ⟨K, hK⟩ : ∃ K, K = U % D.length := ⟨_, rfl⟩
      have hKl : K < D.length := by rw [hK]; exact Nat.mod_lt _ hD0
      have hm1 : (U : Int) % (D.length : Int) = (K : Nat) := by rw [hK]; omega
      have hm2 : (U : Int).tmod (D.length : Int) = (K : Nat) := by rw [Int.tmod_eq_emod_of_nonneg (by omega)]; exact hm1
      have hcutS := cut_toS D K (by omega)
      have HRc := Lib.hid (fun w => read_cases (D.take K) (by rw [List.length_take]; omega) w (HCut.out K hKl))
      have HRm := Lib.hid (fun w => dread_no HMore.out (by rw [List.length_append]; omega) w)
      have happ := Bit.app_list D more
      generalize D.take K = DK at *
      generalize D ++ more = DM at *
      clear hK
      go_wp2_with fail
      refine HPr.out.mono ?_
      rintro e w4 ⟨rfl, k4⟩
      have HK4 := Lib.hid (HK3.out.trans k4)
      clear k4
      go_wp2_with fail
      refine (HRc.out _).mono ?_
      rintro e w5 ⟨x, rfl, hx, k5⟩
      have HK5 := Lib.hid (HK4.out.trans k5)
      have hxb : (x != 0) = true := by simpa using hx
      clear k5
      go_wp2_with fail
      refine (HRm.out _).mono ?_
      rintro e w6 ⟨rfl, k6⟩
      have HK6 := Lib.hid (HK5.out.trans k6)
      clear k6
      go_wp2
      go_ret
      exact ⟨rfl, HK6.out⟩

open Go.ChangeShapes Go.WideShapes Go.ChangeAt
theorem own : ownKnob Try.prog.godebug = none := by kernel_rfl
theorem laidOut : laidOutB Try.prog = true := by kernel_rfl

set_option maxRecDepth 100000 in
theorem lifted (os : Os) (started : os.Started) (H : Type) (enc : TypeId × Value → H) :
    ReturnsInHanded {} Try.checked os 4 .any (Rows.dumpCutsSpec.pre6 enc Try.prog Try.f4 Rows.dumpCutsRow.domain false) (Rows.dumpCutsSpec.post enc Try.prog Try.f4 false true false false) := by
  refine returnsInHanded_of_change (C := Try.checked) own started (by kernel_rfl) Try.func4
    (ChangeSpec.witness6 (enc := enc) (C := Try.checked) false ⟨#[], #[.slice none 0 0, .int .i64 0, .string ⟨#[]⟩], []⟩ 8 (by kernel_rfl) (by kernel_rfl) (by kernel_rfl) (by kernel_rfl)) ?_
  intro W base args ds gs before hval0 hW hcnd _
  have hval : ∀ (j : Nat) t v, Try.f4.params[j]? = some t → args[j]? = some v → Value.okWide Try.prog W .any base t v := hval0
  have hW' := hW
  obtain ⟨p, q, hA0, hV, rfl, hfz, hnd⟩ := hW
  have hA : DataW.TrodAll enc Try.prog W 0 (fun _ => true) true Try.f4.params.toList args.toList ds p := hA0

  rw [Try.params4] at hA hval
  obtain ⟨v0, vs0, d0, ds0, p0, q0, hargs, rfl, rfl, h0, r0⟩ := trodAll_cons hA
  obtain ⟨v1, vs1, d1, ds1, p1, q1, rfl, rfl, rfl, h1, r1⟩ := trodAll_cons r0
  obtain ⟨v2, vs2, d2, ds2, p2, q2, rfl, rfl, rfl, h2, r2⟩ := trodAll_cons r1
  obtain ⟨rfl, rfl, rfl⟩ := trodAll_nil r2
  obtain rfl : args = #[v0, v1, v2] := by cases args; simp_all
  obtain ⟨rfl, rfl⟩ := trodVars_none hV
  have k0 := h0
  have lt0 : ∀ x ∈ p0, x.block < W.heap.size := by obtain ⟨m, hm⟩ := k0; exact DataW.trod_lt m _ _ _ hm
  have k1 := h1
  have lt1 : ∀ x ∈ p1, x.block < W.heap.size := by obtain ⟨m, hm⟩ := k1; exact DataW.trod_lt m _ _ _ hm
  have k2 := h2
  have lt2 : ∀ x ∈ p2, x.block < W.heap.size := by obtain ⟨m, hm⟩ := k2; exact DataW.trod_lt m _ _ _ hm
  obtain ⟨a0, cap0, l0, rfl, f0, sq0⟩ := open_routesN (hval 0 22 v0 rfl rfl) h0
  obtain ⟨a1, rfl, _, _, w1⟩ := open_int Try.underlying3 (hval 1 3 v1 rfl rfl) h1
  obtain ⟨a2, rfl, _, _, w2⟩ := Go.ChangeMaps.open_string Try.underlying9 (hval 2 9 v2 rfl rfl) h2
  clear hA0 hval0
  refine (walk a0 cap0 l0 a1 a2.data.toList W f0 sq0 w1 (by simpa [maxLen] using w2)).mono fun e W' ⟨he, bel⟩ => ?_
  subst he
  exact ⟨_, rfl, _, _, _, [], _, [], hW', trodAll_mk1 (shut_bool Try.underlying4 _), (trodAll_cons_mk (Below.trod laidOut (by kernel_rfl) (of_decide_eq_true (by kernel_rfl)) k0 bel lt0) (trodAll_cons_mk (Below.trod laidOut (by kernel_rfl) (of_decide_eq_true (by kernel_rfl)) k1 bel lt1) (trodAll_cons_mk (Below.trod laidOut (by kernel_rfl) (of_decide_eq_true (by kernel_rfl)) k2 bel lt2) trodAll_mk0))), rfl, bel.frame _, fun h => by cases h⟩

theorem over : Rows.dumpCutsRow.holds Try.pinned (OpenSpec.ofChange Rows.dumpCutsSpec) :=
  OpenClaim.holds_of_wide 4 Try.f4 rfl rfl rfl rfl rfl rfl rfl ⟨rfl, rfl, rfl, rfl, rfl⟩ rfl rfl rfl rfl rfl (by kernel_rfl) Try.func4 (by kernel_rfl)
    (of_decide_eq_true (by kernel_rfl)) (by unfold Func.isWrapper; first | (rw [if_pos (by decide +kernel)]; kernel_rfl) | (rw [if_neg (by decide +kernel)]; exact ⟨rfl, rfl⟩))
    (fun os started H enc _ => lifted os started H enc)
end Go.Proofs.Ytpimecnpdpcceaa.LDumpCuts

namespace Go.Proofs.Ytpimecnpdpcceaa
theorem dumpCuts_holds : Rows.DumpCutsSaid := LDumpCuts.over
#print axioms dumpCuts_holds
end Go.Proofs.Ytpimecnpdpcceaa

