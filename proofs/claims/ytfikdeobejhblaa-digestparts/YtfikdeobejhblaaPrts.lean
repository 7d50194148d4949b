/- Proved: DigestParts: the ranges' routes, one range behind the other, are all routes; an empty range's digest is nought. Condition: none of our own. -/
import Derived.Test.YtfikdeobejhblaaOi
import Derived.Test.YtfikdeobejhblaaDf
import Derived.Test.YtfikdeobejhblaaDi
import Derived.Test.YtfikdeobejhblaaDd
import Derived.Test.YtfikdeobejhblaaDm
import Derived.SizedLaws
namespace Go.Proofs.Ytfikdeobejhblaa.LDigestParts
open Go.RowKit

/-- How many routes there are in the first so many ranges. -/
def cn (l : List Rt) (k : Nat) : Nat := ((List.range k).map fun j : Nat => (partB l j).length).sum
theorem cn_next (l : List Rt) (k : Nat) : cn l (k + 1) = cn l k + (partB l k).length := by
  unfold cn
  rw [List.range_succ, List.map_append, List.sum_append]
  simp
theorem cn_mono (l : List Rt) (k : Nat) : ∀ n, cn l k ≤ cn l (k + n)
  | 0 => Nat.le_refl _
  | n + 1 => by
    have := cn_mono l k n
    rw [show k + (n + 1) = (k + n) + 1 by omega, cn_next]
    omega
theorem cn_all (l : List Rt) : cn l 17 = l.length := cnt_len l
theorem cn_le (l : List Rt) (k : Nat) (hk : k ≤ 17) : cn l k ≤ l.length := by
  have := cn_mono l k (17 - k)
  rw [show k + (17 - k) = 17 by omega, cn_all] at this
  exact this
def OutRel (W : World) (l : List Rt) (n i : Value) (wr : World) : Prop := ∃ k : Nat, i = .int .i64 k ∧ k ≤ 17 ∧ n = .int .i64 (cn l k) ∧ Keep W wr
def InRel (W : World) (p : List Rt) (s i : Value) (wr : World) : Prop := ∃ j : Nat, i = .int .i64 j ∧ j ≤ p.length ∧ s = .int .u64 (dgR (p.take j)).s ∧ Keep W wr

set_option maxRecDepth 100000 in
set_option maxHeartbeats 4000000 in
theorem walk (a : Option Addr) (acap : Nat) (la : List Rt) (w : World) (hA : ArgN rl w a acap la) (_ha : ∀ x ∈ la, Sq x) :
    Calls Try.prog 8 #[.slice a la.length acap] w fun e w' => e = .returned (.bool true) ∧ Keep w w' := by
  have HAw := Lib.hid awake
  have hs2 := hA.small
  have HA := Lib.hid hA
  obtain ⟨NA, hNA⟩ : ∃ N, la.length = N := ⟨_, rfl⟩
  have HNA := Lib.hid hNA
  rw [hNA] at hs2
  rw [hNA]
  clear hA hNA
  unfold maxLen at hs2
  by_cases h1 : NA > 300
  · have h1i : (NA : Int) > 300 := by omega
    go_enter Try.func8, Try.ntmps8
    go_wp2_with fail
    refine (HAw.out _).mono ?_
    rintro e w1 ⟨rfl, k1⟩
    have HK1 := Lib.hid k1
    clear k1
    go_wp2_with fail
    refine (HAw.out _).mono ?_
    rintro e w2 ⟨rfl, k2⟩
    go_wp2
    go_ret
    exact ⟨rfl, HK1.out.trans k2⟩
  · have h1i : ¬ (NA : Int) > 300 := by omega
    have HSL := Lib.hid slice_no
    obtain ⟨n, hn⟩ : ∃ n, n = 20 := ⟨20, rfl⟩
    have hsz : ∀ w, (Go.sizeOf 37).run Try.prog w = .ok n w := fun w => by rw [hn]; exact Try.sizeOf37 w
    have hn0 : ¬ n = 0 := by omega
    obtain ⟨n2, hn2⟩ : ∃ n, n = 18 := ⟨18, rfl⟩
    have hsz2 : ∀ w, (Go.sizeOf 34).run Try.prog w = .ok n2 w := fun w => by rw [hn2]; exact Try.sizeOf34 w
    have hn20 : ¬ n2 = 0 := by omega
    obtain ⟨hz, hi⟩ := zero_of_info info34b
    have hzs : (rc zeroR).size = n := by rw [hn]; exact rc_size _
    have HN := Lib.hid hn
    have HN2 := Lib.hid hn2
    clear hn hn2 hi
    go_enter Try.func8, Try.ntmps8
    go_wp2_with fail
    refine (HAw.out _).mono ?_
    rintro e w1 ⟨rfl, k1⟩
    have HK1 := Lib.hid k1
    have HA1 := Lib.hid ((HA.out.keep k1).keep ((Keep.refl w1).alloc (.cells #[] 37)))
    have HO1 := Lib.hid (Own.made (t := 37) (k := 20) (enc := rl) w1.heap.size w1 (Nat.le_refl _))
    clear k1
    go_wp2_with (first | ((with_reducible refine at_slice [] ?_ (.slice (some ⟨w1.heap.size, 0, none⟩) 0 0) (HSL.out w1) ?_); rfl) | (at_builtin; refine wp_appN elR rfl _ _ rfl w1.heap.size _ a NA acap [] la rfl HNA.out rfl HO1.out HA1.out ?q1 ?q2 ?q3 ?_))
    case q1 => rw [HNA.out]; simp; omega
    case q2 => rw [HNA.out]; simp; omega
    case q3 => simp
    intro v2 w2 o2 g2
    have HK2 := Lib.hid (HK1.out.trans (HO1.out.grown ((Keep.refl w1).alloc _) (Nat.le_refl _) g2))
    have HNw := Lib.hid (new v2 la w2 (o2.row elR).cells (by rw [HNA.out]; omega))
    clear o2 g2 HA1 HO1 HK1
    go_wp2_with fail
    refine HNw.out.mono ?_
    rintro e w3 ⟨p, rfl, k3, hx⟩
    have HK3 := Lib.hid (HK2.out.trans k3)
    clear k3 HK2 HNw
    rcases hx with ⟨e0, rfl⟩ | ⟨e0, bx, lx, rfl, _, px, tx⟩
    · have h0b : (newE la != 0) = true := by simpa using e0
      clear e0
      go_wp2
      go_ret
      exact ⟨rfl, HK3.out⟩
    rw [e0]
    have HX := Lib.hid tx
    have HTp := Lib.hid (fun (w' : World) (k : Keep w3 w') => (show Tp w' (.pointer (some ⟨bx, 0, none⟩)) lx from .inr ⟨bx, rfl, HX.out.keep k⟩))
    have hlx := tx.few
    have HAll := Lib.hid (dall (.pointer (some ⟨bx, 0, none⟩)) lx w3 (HTp.out w3 (Keep.refl _)))
    clear px tx e0 HA
    go_wp2_with fail
    refine HAll.out.mono ?_
    rintro e w4 ⟨g, rfl, o4, k4⟩
    have HO4 := Lib.hid o4
    have HK4 := Lib.hid k4
    clear o4 k4 HAll
    go_wp2
    go_loopw [6, 31] (fun m i wr => OutRel w4 lx m i wr) (fun _ i _ => 17 - (intOf i).toNat)
    case atStart => exact ⟨0, rfl, by omega, rfl, Keep.refl _⟩
    case round =>
      obtain ⟨k, rfl, hk, rfl, hq⟩ := hrel
      have HQ := Lib.hid hq
      by_cases hlt : k < 17
      · have HPQ := Lib.hid (dpart (.pointer (some ⟨bx, 0, none⟩)) lx k wr (HTp.out wr (HK4.out.trans hq)))
        clear hq
        go_wp2_with fail
        refine HPQ.out.mono ?_
        rintro e w5 ⟨v5, rfl, r5, k5⟩
        obtain ⟨a5, c5, e5, _, _⟩ := r5.cells.form
        subst e5
        have HP := Lib.hid r5.cells
        have HQ5 := Lib.hid (HQ.out.trans k5)
        have hpl := part_len lx k
        have HPB := Lib.hid (fun r hr => part_bkt (l := lx) (k := (k : Int)) r hr)
        have HDG := Lib.hid (allD_get lx k hlt)
        have HCN := Lib.hid (cn_next lx k)
        have HCL := Lib.hid (cn_le lx (k + 1) (by omega))
        unfold dgOf at HDG
        clear r5 k5 HPQ HQ
        generalize partB lx (k : Nat) = q at *
        obtain ⟨N, hN⟩ : ∃ n, q.length = n := ⟨_, rfl⟩
        have HPL := Lib.hid hN
        rw [hN] at HP hpl HCN ⊢
        clear hN
        go_wp2
        go_loopw [9, 39] (fun s i wr => InRel w5 q s i wr) (fun _ i _ => N - (intOf i).toNat)
        case atStart => exact ⟨0, rfl, Nat.zero_le _, rfl, Keep.refl _⟩
        case round =>
          obtain ⟨j, rfl, hj, rfl, hq⟩ := hrel
          rw [HPL.out] at hj
          have HQ := Lib.hid hq
          by_cases hjl : j < N
          · obtain ⟨gp, op, capp, ep, _, _, _⟩ := (show Cells rl w5 (.slice a5 q.length c5) q from by rw [HPL.out]; exact HP.out).ptr j (by rw [HPL.out]; exact hjl)
            simp at ep
            obtain ⟨rfl, rfl⟩ := ep
            obtain ⟨x, hx⟩ : ∃ x, q[j]? = some x := ⟨_, List.getElem?_eq_getElem (by rw [HPL.out]; exact hjl)⟩
            have hcl : Cells rl wr (.slice (some ⟨gp, op, none⟩) q.length c5) q := by rw [HPL.out]; exact HP.out.keep hq
            have d1 := hcl.rt HN.out j x hx
            have hsn := dgR_snoc q j x hx (by rw [HPL.out]; omega)
            have hws : IntKind.u64.wrap ((dgR (q.take j)).s + markOf x) = (dgR (q.take (j + 1))).s := by rw [← hsn]; rfl
            have hbx : (bkt x.to : Int) = k := HPB.out x (List.mem_of_getElem? hx)
            have hbn : ((bkt x.to : Int) != k) = false := by rw [hbx]; simp
            have hA := RAt.new wr zeroR
            have hst := hA.store x
            have hzx : (rc x).size = n := by rw [HN.out]; exact rc_size _
            have HR3 := Lib.hid (hA.put x)
            have HK6 := Lib.hid (show Keep wr ((wr.alloc (.cells (rc zeroR) 37)).setRow wr.heap.size (rc x)) from ((Keep.refl wr).alloc _).setRow _ _ (Nat.le_refl _))
            have HB := Lib.hid (dbucket x.to x.ok).keep
            have HM := Lib.hid (dmark x)
            clear hcl hA hx hq hsn hbx
            generalize (dgR (q.take j)).s = s at *
            obtain ⟨s', hs'⟩ : ∃ s', (dgR (q.take (j + 1))).s = s' := ⟨_, rfl⟩
            have HS' := Lib.hid hs'
            rw [hs'] at hws
            clear hs'
            generalize markOf x = m at *
            generalize bkt x.to = bb at *
            have e18 := HR3.out.to HN2.out
            have HSk := Lib.hid (fun (w' : World) (h : RAt w' wr.heap.size x) => (show (loadCellsFrom ⟨wr.heap.size, 0, none⟩ 0 n #[]).run Try.prog w' = .ok (rc x) w' from h.whole HN.out))
            generalize pc x.to = PX at *
            generalize rc x = X at *
            generalize (wr.alloc (.cells (rc zeroR) 37)).setRow wr.heap.size X = w6 at *
            go_wp2_with fail
            refine (HB.out w6).mono ?_
            rintro e w7 ⟨rfl, k7⟩
            have hr7 := HR3.out.keep k7
            have e20 := HSk.out w7 hr7
            have HK7 := Lib.hid (HQ.out.trans (HK6.out.trans k7))
            clear k7 HK6 e18 hr7
            go_wp2_with fail
            refine (HM.out w7).mono ?_
            rintro e w8 ⟨rfl, k8⟩
            have HRL := Lib.hid (show InRel w5 q (.int .u64 s') (.int .i64 ((j : Int) + 1)) w8 from ⟨j + 1, by go_num, by rw [HPL.out]; omega, by rw [HS'.out], HK7.out.trans k8⟩)
            clear k8
            go_wp2
            go_roundw
            case rel => exact HRL.out
            case measure => simp [intOf]; omega
          · obtain rfl : j = N := by omega
            rw [List.take_of_length_le (by rw [HPL.out]; exact Nat.le_refl _)]
            have hraw : wr.ownsRow w3.heap.size 68 2 (.slice (some ⟨g, 0, none⟩) 17 17) 17 (flat dl (allD lx)) := by
              have := HO4.out.keep (HQ5.out.trans hq)
              unfold Own at this
              rwa [allD_len] at this
            have c0 := row_cell hraw (k * 2) _ (flat_n _ k _ HDG.out)
            have c1 := row_cell hraw (k * 2 + 1) _ (flat_s _ k _ HDG.out)
            have hqn : (dgR q).n = (j : Int) := by
              show (q.length : Int) = j
              rw [HPL.out]
            rw [hqn] at c0
            have hbn : ((j : Int) != j) = false := by simp
            have hbs : ((dgR q).s != (dgR q).s) = false := by simp
            have HWR : Hid (wrap64 ((cn lx k : Nat) + (j : Int)) = (cn lx (k + 1) : Nat)) := by
              show _ = _
              have := HCN.out
              have := HCL.out
              rw [IntWalk.wrap64_in _ ⟨by omega, by omega⟩]
              omega
            have HRL := Lib.hid (show OutRel w4 lx (.int .i64 (cn lx (k + 1) : Nat)) (.int .i64 ((k : Int) + 1)) wr from ⟨k + 1, by go_num, by omega, rfl, HQ5.out.trans hq⟩)
            clear hq hraw hqn
            generalize cn lx (k + 1) = C' at *
            generalize cn lx k = C at *
            generalize (dgR q).s = s at *
            go_wp2
            go_roundw
            case rel => rw [HWR.out]; exact HRL.out
            case measure => simp [intOf]; omega
      · obtain rfl : k = 17 := by omega
        have HK5 := Lib.hid (HK4.out.trans hq)
        have HLn := Lib.hid (len_at (.pointer (some ⟨bx, 0, none⟩)) lx wr (HTp.out wr HK5.out))
        rw [cn_all]
        have HDf := Lib.hid (fun (w' : World) (k : Keep wr w') => ddiffer (.slice (some ⟨g, 0, none⟩) 17 17) (.slice (some ⟨g, 0, none⟩) 17 17) (allD lx) (allD lx) w' (Lg.of ((HO4.out.keep (hq.trans k)).row elD).cells) (Lg.of ((HO4.out.keep (hq.trans k)).row elD).cells) (by rw [allD_len]; omega) (by rw [allD_len]; omega))
        rw [diff_self (allD_len lx)] at HDf
        clear hq
        go_wp2_with fail
        refine HLn.out.mono ?_
        rintro e w5 ⟨rfl, k5⟩
        have HKa := Lib.hid (HK3.out.trans (HK5.out.trans k5))
        have HD5 := Lib.hid (HDf.out w5 k5)
        clear k5 HDf HLn
        go_wp2_with fail
        refine HD5.out.mono ?_
        rintro e w6 ⟨v6, rfl, o6, k6⟩
        obtain ⟨a6, c6, e6, _, _⟩ := (o6.row elN).cells.form
        subst e6
        have HK6 := Lib.hid (HKa.out.trans k6)
        clear o6 k6
        go_wp2
        go_ret
        exact ⟨rfl, HK6.out⟩

open Go.ChangeShapes Go.WideShapes Go.ChangeAt
theorem own : ownKnob Try.prog.godebug = none := by kernel_rfl
theorem laidOut : laidOutB Try.prog = true := by kernel_rfl

set_option maxRecDepth 100000 in
theorem lifted (os : Os) (started : os.Started) (H : Type) (enc : TypeId × Value → H) :
    ReturnsInHanded {} Try.checked os 8 .any (Rows.digestPartsSpec.pre6 enc Try.prog Try.f8 Rows.digestPartsRow.domain false) (Rows.digestPartsSpec.post enc Try.prog Try.f8 false true false false) := by
  refine returnsInHanded_of_change (C := Try.checked) own started (by kernel_rfl) Try.func8
    (ChangeSpec.witness6 (enc := enc) (C := Try.checked) false ⟨#[], #[.slice none 0 0], []⟩ 8 (by kernel_rfl) (by kernel_rfl) (by kernel_rfl) (by kernel_rfl)) ?_
  intro W base args ds gs before hval0 hW hcnd _
  have hval : ∀ (j : Nat) t v, Try.f8.params[j]? = some t → args[j]? = some v → Value.okWide Try.prog W .any base t v := hval0
  have hW' := hW
  obtain ⟨p, q, hA0, hV, rfl, hfz, hnd⟩ := hW
  have hA : DataW.TrodAll enc Try.prog W 0 (fun _ => true) true Try.f8.params.toList args.toList ds p := hA0

  rw [Try.params8] at hA hval
  obtain ⟨v0, vs0, d0, ds0, p0, q0, hargs, rfl, rfl, h0, r0⟩ := trodAll_cons hA
  obtain ⟨rfl, rfl, rfl⟩ := trodAll_nil r0
  obtain rfl : args = #[v0] := by cases args; simp_all
  obtain ⟨rfl, rfl⟩ := trodVars_none hV
  have k0 := h0
  have lt0 : ∀ x ∈ p0, x.block < W.heap.size := by obtain ⟨m, hm⟩ := k0; exact DataW.trod_lt m _ _ _ hm
  obtain ⟨a0, cap0, l0, rfl, f0, sq0⟩ := open_routesN (hval 0 22 v0 rfl rfl) h0
  clear hA0 hval0
  refine (walk a0 cap0 l0 W f0 sq0).mono fun e W' ⟨he, bel⟩ => ?_
  subst he
  exact ⟨_, rfl, _, _, _, [], _, [], hW', trodAll_mk1 (shut_bool Try.underlying4 _), (trodAll_cons_mk (Below.trod laidOut (by kernel_rfl) (of_decide_eq_true (by kernel_rfl)) k0 bel lt0) trodAll_mk0), rfl, bel.frame _, fun h => by cases h⟩

theorem over : Rows.digestPartsRow.holds Try.pinned (OpenSpec.ofChange Rows.digestPartsSpec) :=
  OpenClaim.holds_of_wide 8 Try.f8 rfl rfl rfl rfl rfl rfl rfl ⟨rfl, rfl, rfl, rfl, rfl⟩ rfl rfl rfl rfl rfl (by kernel_rfl) Try.func8 (by kernel_rfl)
    (of_decide_eq_true (by kernel_rfl)) (by unfold Func.isWrapper; first | (rw [if_pos (by decide +kernel)]; kernel_rfl) | (rw [if_neg (by decide +kernel)]; exact ⟨rfl, rfl⟩))
    (fun os started H enc _ => lifted os started H enc)
end Go.Proofs.Ytfikdeobejhblaa.LDigestParts

namespace Go.Proofs.Ytfikdeobejhblaa
theorem digestParts_holds : Rows.DigestPartsSaid := LDigestParts.over
#print axioms digestParts_holds
end Go.Proofs.Ytfikdeobejhblaa

