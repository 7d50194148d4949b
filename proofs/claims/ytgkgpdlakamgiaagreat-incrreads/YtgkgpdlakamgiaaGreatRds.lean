/- Proved: IncrReads: any bytes are the changes that the document says, or are refused as it says; written again they are the same bytes. Condition: none of our own. -/
import Derived.Test.YtgkgpdlakamgiaaGreatJr
import Derived.Test.YtgkgpdlakamgiaaGreatJs
import Derived.SizedLaws
namespace Go.Proofs.YtgkgpdlakamgiaaGreat.LIncrReads
open Go.RowKit

set_option maxRecDepth 100000 in
set_option maxHeartbeats 4000000 in
theorem walk (s : List UInt8) (w : World) (hl : s.length ≤ 9223372036854775807) :
    Calls Tryz.prog 4 #[.string ⟨s.toArray⟩] w fun e w' => e = .returned (.bool true) ∧ Keep w w' := by
  have HAw := Lib.hid awake
  have hlen : (⟨s.toArray⟩ : ByteArray).size = s.length := by simp [ByteArray.size]
  by_cases h1 : s.length > 3000
  · have h1i : (s.length : Int) > 3000 := by omega
    go_enter Tryz.func4, Tryz.ntmps4
    go_wp2_with fail
    refine (HAw.out _).mono ?_
    rintro e w1 ⟨rfl, k1⟩
    have HK1 := Lib.hid k1
    clear k1
    go_wp2_with fail
    refine (HAw.out _).mono ?_
    rintro e w2 ⟨rfl, k2⟩
    go_wp2
    go_ret
    exact ⟨rfl, HK1.out.trans k2⟩
  · have h1i : ¬ (s.length : Int) > 3000 := by omega
    have HR := Lib.hid (fun (w : World) => iread s w (by omega))
    have HQ := Lib.hid (fun (w : World) => qread8 s w (by omega))
    have HFW := Lib.hid (fun l (h : readI s = .ok l) => row_fwd h)
    have HPr := Lib.hid (fun (v : Value) (l : List Ic) (w : World) (h : Ls w v l) (hq : ∀ i ∈ l, SqI i) (hl : l.length ≤ 1000000) => iprint v l w h hq hl)
    have HSm := Lib.hid (fun (l : List Ic) (u v : Value) (w : World) (hu : Ls w u l) (hv : Ls w v l) (hl : l.length ≤ 1000000) => qsameL u v l l w hu hv hl hl)
    simp only [decide_true] at HSm
    generalize readI s = RR at *
    cases RR with
    | error x =>
      have HP0 := Lib.hid (show printI [] = (rowB [], 0) from by unfold printI; simp)
      have HPn := Lib.hid (fun (w : World) => HPr.out (.slice none 0 0) [] w (Ls.nil w) (by simp) (by simp))
      rw [HP0.out] at HPn
      generalize rowB [] = RB at *
      go_enter Tryz.func4, Tryz.ntmps4
      go_wp2_with fail
      refine (HAw.out _).mono ?_
      rintro e w1 ⟨rfl, k1⟩
      have HK1 := Lib.hid k1
      clear k1
      go_wp2_with fail
      refine (HR.out w1).mono ?_
      rintro e w2 ⟨rfl, hx, k2⟩
      have hxb : (x != 0) = true := by simpa using hx
      have HK2 := Lib.hid (HK1.out.trans k2)
      clear k2 HK1 hx
      go_wp2_with fail
      refine (HQ.out w2).mono ?_
      rintro e w3 ⟨rfl, _, k3⟩
      have HK3 := Lib.hid (HK2.out.trans k3)
      clear k3 HK2
      go_wp2_with fail
      refine (HSm.out [] _ _ w3 (Ls.nil w3) (Ls.nil w3) (by simp)).mono ?_
      rintro e w4 ⟨rfl, k4⟩
      have HK4 := Lib.hid (HK3.out.trans k4)
      clear k4 HK3
      go_wp2_with fail
      refine (HPn.out w4).mono ?_
      rintro e w5 ⟨rfl, k5⟩
      have HK5 := Lib.hid (HK4.out.trans k5)
      clear k5 HK4
      go_wp2
      go_ret
      exact ⟨rfl, HK5.out⟩
    | ok l =>
      obtain ⟨hsB, hle, hri, hsq⟩ := HFW.out l rfl
      have HP0 := Lib.hid (show printI l = (s, 0) from by unfold printI; rw [if_pos hri, if_neg (by omega), ← hsB])
      have HPn := Lib.hid (fun (v : Value) (w : World) (h : Ls w v l) => HPr.out v l w h hsq (by omega))
      rw [HP0.out] at HPn
      have HSl := Lib.hid (fun (u v : Value) (w : World) (hu : Ls w u l) (hv : Ls w v l) => HSm.out l u v w hu hv (by omega))
      clear hsB hle hri hsq HPr HSm HFW
      go_enter Tryz.func4, Tryz.ntmps4
      go_wp2_with fail
      refine (HAw.out _).mono ?_
      rintro e w1 ⟨rfl, k1⟩
      have HK1 := Lib.hid k1
      clear k1
      go_wp2_with fail
      refine (HR.out w1).mono ?_
      rintro e w2 ⟨v2, rfl, o2, k2⟩
      have HC2 := Lib.hid (Ls.of (o2.row elI).cells)
      have HK2 := Lib.hid (HK1.out.trans k2)
      clear k2 HK1 o2
      go_wp2_with fail
      refine (HQ.out w2).mono ?_
      rintro e w3 ⟨v3, rfl, o3, k3⟩
      have HC3 := Lib.hid (HC2.out.keep k3)
      have HD3 := Lib.hid (Ls.of (o3.row elI).cells)
      have HK3 := Lib.hid (HK2.out.trans k3)
      clear k3 HK2 o3 HC2
      go_wp2_with fail
      refine (HSl.out v2 v3 w3 HC3.out HD3.out).mono ?_
      rintro e w4 ⟨rfl, k4⟩
      have HC4 := Lib.hid (HC3.out.keep k4)
      have HK4 := Lib.hid (HK3.out.trans k4)
      clear k4 HK3 HC3 HD3
      go_wp2_with fail
      refine (HPn.out v2 w4 HC4.out).mono ?_
      rintro e w5 ⟨rfl, k5⟩
      have HK5 := Lib.hid (HK4.out.trans k5)
      clear k5 HK4
      go_wp2
      go_ret
      exact ⟨rfl, HK5.out⟩

open Go.ChangeShapes Go.WideShapes Go.ChangeAt
theorem own : ownKnob Tryz.prog.godebug = none := by kernel_rfl
theorem laidOut : laidOutB Tryz.prog = true := by kernel_rfl

set_option maxRecDepth 100000 in
theorem lifted (os : Os) (started : os.Started) (H : Type) (enc : TypeId × Value → H) :
    ReturnsInHanded {} Tryz.checked os 4 .any (Rows.incrReadsSpec.pre6 enc Tryz.prog Tryz.f4 Rows.incrReadsRow.domain false) (Rows.incrReadsSpec.post enc Tryz.prog Tryz.f4 false true false false) := by
  refine returnsInHanded_of_change (C := Tryz.checked) own started (by kernel_rfl) Tryz.func4
    (ChangeSpec.witness6 (enc := enc) (C := Tryz.checked) false ⟨#[], #[.string ⟨#[]⟩], []⟩ 8 (by kernel_rfl) (by kernel_rfl) (by kernel_rfl) (by kernel_rfl)) ?_
  intro W base args ds gs before hval0 hW hcnd _
  have hval : ∀ (j : Nat) t v, Tryz.f4.params[j]? = some t → args[j]? = some v → Value.okWide Tryz.prog W .any base t v := hval0
  have hW' := hW
  obtain ⟨p, q, hA0, hV, rfl, hfz, hnd⟩ := hW
  have hA : DataW.TrodAll enc Tryz.prog W 0 (fun _ => true) true Tryz.f4.params.toList args.toList ds p := hA0

  rw [Tryz.params4] at hA hval
  obtain ⟨v0, vs0, d0, ds0, p0, q0, hargs, rfl, rfl, h0, r0⟩ := trodAll_cons hA
  obtain ⟨rfl, rfl, rfl⟩ := trodAll_nil r0
  obtain rfl : args = #[v0] := by cases args; simp_all
  obtain ⟨rfl, rfl⟩ := trodVars_none hV
  have k0 := h0
  have lt0 : ∀ x ∈ p0, x.block < W.heap.size := by obtain ⟨m, hm⟩ := k0; exact DataW.trod_lt m _ _ _ hm
  obtain ⟨a0, rfl, _, _, w0⟩ := Go.ChangeMaps.open_string Tryz.underlying9 (hval 0 9 v0 rfl rfl) h0
  clear hA0 hval0
  refine (walk a0.data.toList W (by simpa [maxLen] using w0)).mono fun e W' ⟨he, bel⟩ => ?_
  subst he
  exact ⟨_, rfl, _, _, _, [], _, [], hW', trodAll_mk1 (shut_bool Tryz.underlying4 _), (trodAll_cons_mk (Below.trod laidOut (by kernel_rfl) (of_decide_eq_true (by kernel_rfl)) k0 bel lt0) trodAll_mk0), rfl, bel.frame _, fun h => by cases h⟩

theorem over : Rows.incrReadsRow.holds Tryz.pinned (OpenSpec.ofChange Rows.incrReadsSpec) :=
  OpenClaim.holds_of_wide 4 Tryz.f4 rfl rfl rfl rfl rfl rfl rfl ⟨rfl, rfl, rfl, rfl, rfl⟩ rfl rfl rfl rfl rfl (by kernel_rfl) Tryz.func4 (by kernel_rfl)
    (of_decide_eq_true (by kernel_rfl)) (by unfold Func.isWrapper; first | (rw [if_pos (by decide +kernel)]; kernel_rfl) | (rw [if_neg (by decide +kernel)]; exact ⟨rfl, rfl⟩))
    (fun os started H enc _ => lifted os started H enc)
end Go.Proofs.YtgkgpdlakamgiaaGreat.LIncrReads

namespace Go.Proofs.YtgkgpdlakamgiaaGreat
theorem incrReads_holds : Rows.IncrReadsSaid := LIncrReads.over
#print axioms incrReads_holds
end Go.Proofs.YtgkgpdlakamgiaaGreat

