/- Proved: for every list of routes the law TableMakes returns true (any routes are the table that the document says, or none), and its argument reads behind the call as it read before. No condition. -/
import Derived.Test.YtgocmolebanflaaAx
import Derived.Test.YtgocmolebanflaaSm
import Derived.Test.YtgocmolebanflaaRn
import Derived.ShutString
import Derived.ChangeOld
namespace Go.Proofs.Ytgocmolebanflaa.LTableMakes
open Go.RowKit

def Mk (w : World) (N : Nat) (i : Value) (wr : World) : Prop := ∃ k : Nat, i = .int .i64 k ∧ k ≤ N ∧ Keep w wr

set_option maxRecDepth 100000 in
set_option maxHeartbeats 4000000 in
theorem walk (a0 : Option Addr) (p0 : Nat) (l0 : List Rt) (w : World) (hA0 : ArgN rl w a0 p0 l0) : Calls Try.prog 4 #[.slice a0 l0.length p0] w fun e w' => e = .returned (.bool true) ∧ Below w.heap.size w w' := by
  have hs0 := hA0.small
  unfold maxLen at hs0
  have HA0 := Lib.hid hA0
  clear hA0
  obtain ⟨L0, hL0⟩ : ∃ n, l0.length = n := ⟨_, rfl⟩
  have HL0 := Lib.hid hL0
  rw [hL0] at hs0 ⊢
  clear hL0
  by_cases hb0 : 400 < L0
  · have hbI : (L0 : Int) > 400 := by omega
    go_enter Try.func4, Try.ntmps4
    go_wp2_with fail
    refine (awake _).mono ?_
    rintro e w1 ⟨rfl, b1⟩
    go_wp2_with fail
    refine (awake _).mono ?_
    rintro e w2 ⟨rfl, b2⟩
    go_wp2
    go_ret
    exact ⟨rfl, b1.trans b2⟩
  have hb0I : ¬ ((L0 : Int) > 400) := by omega
  obtain ⟨hz34, _⟩ := zero_of_info info34b
  obtain ⟨n, hn⟩ : ∃ n, n = 20 := ⟨20, rfl⟩
  have hsz : ∀ w, (Go.sizeOf 34).run Try.prog w = .ok n w := fun w => by rw [hn]; exact Try.sizeOf34 w
  have hn0 : ¬ n = 0 := by omega
  have hzs : (rc zeroR).size = n := by rw [hn]; exact rc_size _
  have HN := Lib.hid hn
  clear hn
  go_enter Try.func4, Try.ntmps4
  go_wp2_with fail
  refine (awake _).mono ?_
  rintro e w1 ⟨rfl, b1⟩
  have HK1 := Lib.hid b1
  have HKA := Lib.hid (show Keep w1 (w1.alloc (.cells #[] 34)) from (Keep.refl w1).alloc _)
  have HO := Lib.hid (Own.made (t := 34) (k := 20) (enc := rl) w1.heap.size w1 (Nat.le_refl _))
  have hbs : w1.heap.size ≤ (w1.alloc (.cells #[] 34)).heap.size := HKA.out.size
  have HAA := Lib.hid (HA0.out.keep (HK1.out.trans HKA.out))
  clear b1
  go_wp2_with (at_builtin; refine wp_appN elR rfl _ _ rfl w1.heap.size _ a0 L0 p0 [] l0 rfl HL0.out rfl HO.out HAA.out ?q1 ?q2 ?q3 ?_)
  case q1 => simp [HL0.out]; omega
  case q2 => simp [HL0.out]; omega
  case q3 => exact hbs
  intro v2 w2 k1 k2
  have HK2 := Lib.hid (HO.out.grown HKA.out (Nat.le_refl _) k2)
  have HNE := Lib.hid (new v2 l0 w2 (by simpa using (Own.row elR k1).cells) (by rw [HL0.out]; omega))
  clear k1 k2 hbs HO HKA HAA
  go_wp2_with fail
  refine HNE.out.mono ?_
  rintro e w3 ⟨px, rfl, b3, hx⟩
  have HX := Lib.hid hx
  have HK3 := Lib.hid (HK1.out.trans (HK2.out.trans b3))
  clear hx b3 HK1 HK2 HNE
  have HQN := Lib.hid (qnew a0 p0 l0 w3 (HA0.out.keep HK3.out).toArgL (by rw [HL0.out]; omega))
  rw [HL0.out] at HQN
  unfold QnPost at HQN
  obtain ⟨E, hE⟩ : ∃ e, newE l0 = e := ⟨_, rfl⟩
  rw [hE] at HX ⊢
  simp only [hE] at HQN
  clear hE
  go_wp2_with fail
  refine HQN.out.mono ?_
  rintro e w4 ⟨v4, rfl, b4, hq⟩
  have HQ := Lib.hid hq
  have HK34 := Lib.hid b4
  have HK4 := Lib.hid (HK3.out.trans b4)
  have hEE : (E != E) = false := by simp
  clear hq b4 HQN
  rcases HX.out with ⟨hne, rfl⟩ | ⟨h0, bx, m, rfl, hbx, hpx, tbx⟩
  · have hE0 : (E == 0) = false := by simpa using hne
    clear HX HQ hne
    go_wp2
    go_loopw [50] (fun i wr => Mk w L0 i wr) (fun i _ => L0 - (intOf i).toNat)
    case atStart => exact ⟨0, rfl, Nat.zero_le _, HK4.out⟩
    case round =>
      obtain ⟨k, rfl, hk, hkp⟩ := hrel
      by_cases hlt : k < L0
      · have hne : l0 ≠ [] := fun e => by have := HL0.out; rw [e] at this; simp at this; omega
        have hcl := (HA0.out.keep hkp).cells hne
        obtain ⟨g, o, cap', e, _, _, _⟩ := hcl.ptr k (by rw [HL0.out]; exact hlt)
        simp at e
        obtain ⟨rfl, rfl⟩ := e
        obtain ⟨x, hx⟩ : ∃ x, l0[k]? = some x := ⟨_, List.getElem?_eq_getElem (by rw [HL0.out]; exact hlt)⟩
        have d1 := hcl.rt HN.out k x hx
        have hI := RAt.new wr zeroR
        have hst := hI.store x
        have HX3 := Lib.hid (hI.put x)
        have hzx : (rc x).size = n := by rw [HN.out]; exact rc_size _
        have HKA := Lib.hid (show Keep w ((wr.alloc (.cells (rc zeroR) 34)).setRow wr.heap.size (rc x)) from hkp.trans (((Keep.refl wr).alloc _).setRow _ _ (Nat.le_refl _)))
        have HC1 := Lib.hid (rightT x).keep
        have HC2 := Lib.hid (qrightT x).keep
        have d2 : ∀ u : KW ((wr.alloc (.cells (rc zeroR) 34)).setRow wr.heap.size (rc x)), (loadCellsFrom ⟨wr.heap.size, 0, none⟩ 0 n #[]).run Try.prog u.1 = .ok (rc x) u.1 := fun u => (HX3.out.keep u.2).whole HN.out
        clear hcl hI hx hkp
        generalize decide (rightR x) = D at *
        generalize rc x = X at *
        generalize (wr.alloc (.cells (rc zeroR) 34)).setRow wr.heap.size X = w9 at *
        have hDD : (D != D) = false := by simp
        go_wp2_with fail
        refine wp_region_keep (Keep.refl _) (by kernel_rfl) (by kernel_rfl) ?_
        repeat (first | go_big_quiet_step (fail) | quiet_step (fail))
        first | go_big_quiet_step (exact HC1.out.at _) | quiet_step (exact HC1.out.at _)
        repeat (first | go_big_quiet_step (fail) | quiet_step (fail))
        first | go_big_quiet_step (exact HC2.out.at _) | quiet_step (exact HC2.out.at _)
        repeat (first | go_big_quiet_step (fail) | quiet_step (fail))
        refine wpQuiet_nil ?_
        rintro w10 ⟨⟨w11, b11⟩, rfl⟩
        have HB11 := Lib.hid (HKA.out.trans b11)
        clear b11 d1 d2 hst hzx
        go_wp2
        go_roundw
        case rel => exact ⟨k + 1, by go_num, by omega, HB11.out⟩
        case measure => simp [intOf]; omega
      · have HKP := Lib.hid hkp
        clear hkp
        go_wp2
        go_ret
        exact ⟨rfl, HKP.out⟩
  · have hE0 : (E == 0) = true := by simpa using h0
    obtain ⟨m', r4, s4, p4⟩ := HQ.out h0
    have hmm : m' = m := sorted_unique s4 tbx.sorted (p4.trans hpx.symm)
    subst hmm
    have HR4 := Lib.hid r4
    have HT4 := Lib.hid (tbx.keep HK34.out)
    have hfew := tbx.few
    clear HX HQ h0 r4 s4 p4 hpx tbx HK34 hbx
    go_wp2_with fail
    refine (all _ _ w4 (Tp.of HT4.out)).mono ?_
    rintro e w5 ⟨v5, rfl, o5, b5⟩
    have HSA := Lib.hid (qsame v5 v4 m' m' w5 (o5.row elR).cells (HR4.out.keep b5).cells (by omega) (by omega))
    rw [decide_eq_true rfl] at HSA
    have HK5 := Lib.hid (HK4.out.trans b5)
    clear o5 b5
    go_wp2_with fail
    refine HSA.out.mono ?_
    rintro e w6 ⟨rfl, b6⟩
    have HK6 := Lib.hid (HK5.out.trans b6)
    clear b6 HSA HK5
    go_wp2
    go_loopw [50] (fun i wr => Mk w L0 i wr) (fun i _ => L0 - (intOf i).toNat)
    case atStart => exact ⟨0, rfl, Nat.zero_le _, HK6.out⟩
    case round =>
      obtain ⟨k, rfl, hk, hkp⟩ := hrel
      by_cases hlt : k < L0
      · have hne : l0 ≠ [] := fun e => by have := HL0.out; rw [e] at this; simp at this; omega
        have hcl := (HA0.out.keep hkp).cells hne
        obtain ⟨g, o, cap', e, _, _, _⟩ := hcl.ptr k (by rw [HL0.out]; exact hlt)
        simp at e
        obtain ⟨rfl, rfl⟩ := e
        obtain ⟨x, hx⟩ : ∃ x, l0[k]? = some x := ⟨_, List.getElem?_eq_getElem (by rw [HL0.out]; exact hlt)⟩
        have d1 := hcl.rt HN.out k x hx
        have hI := RAt.new wr zeroR
        have hst := hI.store x
        have HX3 := Lib.hid (hI.put x)
        have hzx : (rc x).size = n := by rw [HN.out]; exact rc_size _
        have HKA := Lib.hid (show Keep w ((wr.alloc (.cells (rc zeroR) 34)).setRow wr.heap.size (rc x)) from hkp.trans (((Keep.refl wr).alloc _).setRow _ _ (Nat.le_refl _)))
        have HC1 := Lib.hid (rightT x).keep
        have HC2 := Lib.hid (qrightT x).keep
        have d2 : ∀ u : KW ((wr.alloc (.cells (rc zeroR) 34)).setRow wr.heap.size (rc x)), (loadCellsFrom ⟨wr.heap.size, 0, none⟩ 0 n #[]).run Try.prog u.1 = .ok (rc x) u.1 := fun u => (HX3.out.keep u.2).whole HN.out
        clear hcl hI hx hkp
        generalize decide (rightR x) = D at *
        generalize rc x = X at *
        generalize (wr.alloc (.cells (rc zeroR) 34)).setRow wr.heap.size X = w9 at *
        have hDD : (D != D) = false := by simp
        go_wp2_with fail
        refine wp_region_keep (Keep.refl _) (by kernel_rfl) (by kernel_rfl) ?_
        repeat (first | go_big_quiet_step (fail) | quiet_step (fail))
        first | go_big_quiet_step (exact HC1.out.at _) | quiet_step (exact HC1.out.at _)
        repeat (first | go_big_quiet_step (fail) | quiet_step (fail))
        first | go_big_quiet_step (exact HC2.out.at _) | quiet_step (exact HC2.out.at _)
        repeat (first | go_big_quiet_step (fail) | quiet_step (fail))
        refine wpQuiet_nil ?_
        rintro w10 ⟨⟨w11, b11⟩, rfl⟩
        have HB11 := Lib.hid (HKA.out.trans b11)
        clear b11 d1 d2 hst hzx
        go_wp2
        go_roundw
        case rel => exact ⟨k + 1, by go_num, by omega, HB11.out⟩
        case measure => simp [intOf]; omega
      · have HKP := Lib.hid hkp
        clear hkp
        go_wp2
        go_ret
        exact ⟨rfl, HKP.out⟩

open Go.ChangeShapes Go.WideShapes Go.ChangeAt

set_option maxRecDepth 100000 in
theorem lifted (os : Os) (started : os.Started) (H : Type) (enc : TypeId × Value → H) :
    ReturnsInHanded {} Try.checked os 4 .any (Rows.tableMakesSpec.pre6 enc Try.prog Try.f4 Rows.tableMakesRow.domain false) (Rows.tableMakesSpec.post enc Try.prog Try.f4 false true false false) := by
  refine returnsInHanded_of_change (C := Try.checked) own started (by kernel_rfl) Try.func4
    (ChangeSpec.witness6 (enc := enc) (C := Try.checked) false ⟨#[], #[.slice none 0 0], []⟩ 8 (by kernel_rfl) (by kernel_rfl) (by kernel_rfl) (by kernel_rfl)) ?_
  intro W base args ds gs before hval0 hW hcnd _
  have hval : ∀ (j : Nat) t v, Try.f4.params[j]? = some t → args[j]? = some v → Value.okWide Try.prog W .any base t v := hval0
  have hW' := hW
  obtain ⟨p, q, hA0, hV, rfl, hfz, hnd⟩ := hW
  have hA : DataW.TrodAll enc Try.prog W 0 (fun _ => true) true Try.f4.params.toList args.toList ds p := hA0

  rw [Try.params4] at hA hval
  obtain ⟨v0, vs0, d0, ds0, p0, q0, hargs, rfl, rfl, h0, r0⟩ := trodAll_cons hA
  obtain ⟨rfl, rfl, rfl⟩ := trodAll_nil r0
  obtain rfl : args = #[v0] := by cases args; simp_all
  obtain ⟨rfl, rfl⟩ := trodVars_none hV
  have k0 := h0
  have lt0 : ∀ x ∈ p0, x.block < W.heap.size := by obtain ⟨m, hm⟩ := k0; exact DataW.trod_lt m _ _ _ hm
  obtain ⟨a0, cap0, l0, rfl, f0⟩ := open_routesN (hval 0 31 v0 rfl rfl) h0
  clear hA0 hval0
  refine (walk a0 cap0 l0 W f0).mono fun e W' ⟨he, bel⟩ => ?_
  subst he
  exact ⟨_, rfl, _, _, _, [], _, [], hW', trodAll_mk1 (shut_bool Try.underlying4 _), (trodAll_cons_mk (Below.trod laidOut (by kernel_rfl) (of_decide_eq_true (by kernel_rfl)) k0 bel lt0) trodAll_mk0), rfl, bel.frame _, fun h => by cases h⟩

theorem over : Rows.tableMakesRow.holds Try.pinned (OpenSpec.ofChange Rows.tableMakesSpec) :=
  OpenClaim.holds_of_wide 4 Try.f4 rfl rfl rfl rfl rfl rfl rfl ⟨rfl, rfl, rfl, rfl, rfl⟩ rfl rfl rfl rfl rfl (by kernel_rfl) Try.func4 (by kernel_rfl)
    (of_decide_eq_true (by kernel_rfl)) (by unfold Func.isWrapper; first | (rw [if_pos (by decide +kernel)]; kernel_rfl) | (rw [if_neg (by decide +kernel)]; exact ⟨rfl, rfl⟩))
    (fun os started H enc _ => lifted os started H enc)
end Go.Proofs.Ytgocmolebanflaa.LTableMakes

namespace Go.Proofs.Ytgocmolebanflaa
theorem tableMakes_holds : Rows.TableMakesSaid := LTableMakes.over
#print axioms tableMakes_holds
end Go.Proofs.Ytgocmolebanflaa

