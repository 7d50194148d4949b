/- Proved: for every list of routes and every prefix the law TableOrder returns true (however routes are put a table has them in the order of their prefixes; all are found, others aren't), and its arguments read behind the call as they read before. No condition. -/
import Derived.Test.YtgocmolebanflaaAx
import Derived.Test.YtgocmolebanflaaMp
import Derived.Test.YtgocmolebanflaaOp2
import Derived.ShutString
import Derived.ChangeOld
namespace Go.Proofs.Ytgocmolebanflaa.LTableOrder
open Go.RowKit

theorem new_0 : newE [] = 0 := by
  unfold newE
  rw [if_pos (by simp), if_pos (by simp), if_pos (by simp)]
theorem mlen {w : World} {b : Nat} {W : List Rt} (h : MapIs w b W) (ty : TypeId) : (Builtin.len_ #[66] ty #[.map (some b)]).run Try.prog w = .ok (.int .i64 (W.length : Nat)) w := by
  obtain ⟨es, clock, hb, hl⟩ := h.len
  rw [← hl]
  simp [Builtin.len_, run_underlying under66, MapKept.run_getObj_map hb, goInt, Result.andThen]
theorem put_zero {m : List Rt} {x : Rt} : ((putS m x).2 = 0 → (putS m x).1 = putL m x) ∧ ((putS m x).2 ≠ 0 → (putS m x).1 = m) := by
  unfold putS
  repeat' split
  all_goals simp
theorem get_own {m : List Rt} (hs : Sorted m) {x : Rt} (hx : x ∈ m) : getS m x.to = x := by
  obtain ⟨h1, h2⟩ := get_mem hs x.ok (has_iff.2 ⟨x, hx, rfl⟩)
  exact to_inj hs h1 hx h2
def O1 (w : World) (b M : Nat) (p : Px) (N : Nat) (i : Value) (wr : World) : Prop := ∃ (k : Nat) (m W : List Rt), i = .int .i64 k ∧ k ≤ N ∧ Tb wr b m ∧ MapIs wr M W ∧ W.Perm m ∧ At wr w.heap.size p ∧ Keep w wr
def O2 (W : World) (N : Nat) (i : Value) (wr : World) : Prop := ∃ k : Nat, i = .int .i64 k ∧ k ≤ N ∧ Keep W wr

set_option maxRecDepth 100000 in
set_option maxHeartbeats 4000000 in
theorem walk (a : Option Addr) (cap : Nat) (l : List Rt) (p : Px) (w : World) (hA : ArgL rl w a cap l) (hp : p.addr.length = 16) : Calls Try.prog 8 #[.slice a l.length cap, .agg (pc p)] w fun e w' => e = .returned (.bool true) ∧ Below w.heap.size w w' := by
  have hP := (one_at w p hp).1
  have hS : Keep w (w.alloc (.cells (pc p) 25)) := (Keep.refl w).alloc _
  have hsm := hA.small
  unfold maxLen at hsm
  have HAR := Lib.hid hA
  have HP := Lib.hid hP
  have HS := Lib.hid hS
  clear hA hP hS
  obtain ⟨L, hL⟩ : ∃ n, l.length = n := ⟨_, rfl⟩
  have HL := Lib.hid hL
  rw [hL] at hsm ⊢
  clear hL
  by_cases hbig : 200 < L
  · have hbI : (L : Int) > 200 := by omega
    go_enter Try.func8, Try.ntmps8
    go_wp2_with fail
    refine (awake _).mono ?_
    rintro e w1 ⟨rfl, b1⟩
    go_wp2_with fail
    refine (awake _).mono ?_
    rintro e w2 ⟨rfl, b2⟩
    go_wp2
    go_ret
    exact ⟨rfl, HS.out.trans (b1.trans b2)⟩
  have hbI : ¬ ((L : Int) > 200) := by omega
  obtain ⟨hz34, _⟩ := zero_of_info info34b
  obtain ⟨n, hn⟩ : ∃ n, n = 20 := ⟨20, rfl⟩
  have hsz : ∀ w, (Go.sizeOf 34).run Try.prog w = .ok n w := fun w => by rw [hn]; exact Try.sizeOf34 w
  have hn0 : ¬ n = 0 := by omega
  obtain ⟨n2, hn2⟩ : ∃ n, n = 18 := ⟨18, rfl⟩
  have hsz2 : ∀ w, (Go.sizeOf 25).run Try.prog w = .ok n2 w := fun w => by rw [hn2]; exact Try.sizeOf25 w
  have hn20 : ¬ n2 = 0 := by omega
  have hzs : (rc zeroR).size = n := by rw [hn]; exact rc_size _
  have HN := Lib.hid hn
  have HN2 := Lib.hid hn2
  clear hn hn2
  go_enter Try.func8, Try.ntmps8
  go_wp2_with fail
  refine (awake _).mono ?_
  rintro e w1 ⟨rfl, b1⟩
  go_wp2_with fail
  refine (new_of _ [] [] w1 (Cells.nil w1) (by simp) new_0 Sorted.nil (List.Perm.refl _)).mono ?_
  rintro e w2 ⟨b, rfl, hb, tb, b2⟩
  have HK3 := Lib.hid (show Keep w2 (w2.alloc (.map #[] 0)) from (Keep.refl w2).alloc _)
  have HT3 := Lib.hid (tb.keep HK3.out)
  have HM3 := Lib.hid (MapIs.made w2)
  have HK2 := Lib.hid ((HS.out.trans (b1.trans b2)).trans HK3.out)
  have HP3 := Lib.hid (show At _ w.heap.size p from ⟨((b1.trans b2).trans HK3.out).obj HP.out.block, hp⟩)
  have hbw : w.heap.size < b := by
    have := block_lt (b1.obj HP.out.block)
    omega
  have hbM : b < w2.heap.size := by obtain ⟨⟨_, h, _⟩, _, _⟩ := tb; exact block_lt h
  obtain ⟨MB, hMB⟩ : ∃ n, w2.heap.size = n := ⟨_, rfl⟩
  rw [hMB] at HM3 hbM
  clear tb b1 b2 hb HP HS HK3
  have hm0 : (Instr.makeMap 66 none).run Try.prog w2 = .ok (.map (some MB)) (w2.alloc (.map #[] 0)) := by rw [← hMB]; exact run_makeMap 66 w2
  clear hMB
  generalize w2.alloc (.map #[] 0) = w3 at *
  go_wp2
  go_loopw [32] (fun i wr => O1 w b MB p L i wr) (fun i _ => L - (intOf i).toNat)
  case atStart => exact ⟨0, [], [], rfl, Nat.zero_le _, HT3.out, HM3.out, List.Perm.refl _, HP3.out, HK2.out⟩
  case round =>
    clear HT3 HM3 HP3 HK2 hm0
    obtain ⟨k, m, W, rfl, hk, tb, mi, hpm, pa, hkp⟩ := hrel
    by_cases hlt : k < L
    · have hne : l ≠ [] := fun e => by have := HL.out; rw [e] at this; simp at this; omega
      have hcl := (HAR.out.keep hkp).cells hne
      obtain ⟨g, o, cap', e, _, _, _⟩ := hcl.ptr k (by rw [HL.out]; exact hlt)
      simp at e
      obtain ⟨rfl, rfl⟩ := e
      obtain ⟨x, hx⟩ : ∃ x, l[k]? = some x := ⟨_, List.getElem?_eq_getElem (by rw [HL.out]; exact hlt)⟩
      have d1 := hcl.rt HN.out k x hx
      have hI := RAt.new wr zeroR
      have hst := hI.store x
      have HX3 := Lib.hid (hI.put x)
      have hl3 := (hI.put x).whole HN.out
      have hzx : (rc x).size = n := by rw [HN.out]; exact rc_size _
      have HKA := Lib.hid (show Keep wr ((wr.alloc (.cells (rc zeroR) 34)).setRow wr.heap.size (rc x)) from ((Keep.refl wr).alloc _).setRow _ _ (Nat.le_refl _))
      have HTB := Lib.hid (tb.keep HKA.out)
      have HMI := Lib.hid (mi.keep HKA.out)
      have HPA := Lib.hid (show At _ w.heap.size p from ⟨HKA.out.obj pa.block, hp⟩)
      have HKK := Lib.hid (hkp.trans HKA.out)
      have HPU := Lib.hid (put b m x _ HTB.out)
      have hxb : wr.heap.size ≠ b := by obtain ⟨⟨_, h, _⟩, _, _⟩ := tb; have := block_lt h; omega
      have HPZ := Lib.hid (put_zero (m := m) (x := x))
      have HSP := Lib.hid (setW_perm hpm tb.sorted x)
      have HPM := Lib.hid hpm
      clear hcl hI hx tb mi pa hkp HKA hpm
      obtain ⟨XX, hXX⟩ : ∃ X, rc x = X := ⟨_, rfl⟩
      have HXX := Lib.hid hXX
      rw [hXX] at d1 hst hl3 hzx HX3 HTB HMI HPA HKK HPU
      clear hXX
      generalize (wr.alloc (.cells (rc zeroR) 34)).setRow wr.heap.size XX = w5 at *
      go_wp2_with fail
      refine HPU.out.mono ?_
      rintro e w4 ⟨rfl, t4, o4⟩
      have HPA4 := Lib.hid (show At w4 w.heap.size p from ⟨o4.obj HPA.out.block (by omega), hp⟩)
      have HMI4 := Lib.hid (HMI.out.only o4 (by omega))
      have HX4 := Lib.hid (show RAt w4 wr.heap.size x from o4.obj HX3.out hxb)
      have HKK4 := Lib.hid (o4.made HKK.out (by omega))
      have HT4 := Lib.hid t4
      clear o4 t4 d1 hst hl3 hzx HPU HPA HMI HX3 HKK HTB
      obtain ⟨X, hX⟩ : ∃ X, putS m x = X := ⟨_, rfl⟩
      rw [hX] at HT4 HPZ ⊢
      clear hX
      obtain ⟨Xt, Xe⟩ := X
      simp only at HT4 HPZ ⊢
      by_cases he : Xe = 0
      · have he' : (Xe == 0) = true := by simpa using he
        have hXt : Xt = putL m x := HPZ.out.1 he
        subst hXt
        obtain ⟨w6, hup, hm6, o6⟩ := upd HMI4.out x
        have lto := HX4.out.to HN2.out
        have lwh := HX4.out.whole HN.out
        rw [HXX.out] at hup lwh
        have HMI6 := Lib.hid hm6
        have HT6 := Lib.hid (HMI4.out.tb HT4.out o6)
        have HPA6 := Lib.hid (show At w6 w.heap.size p from ⟨o6.obj HPA4.out.block (HMI4.out.ne HPA4.out.block), hp⟩)
        have HKK6 := Lib.hid (o6.made HKK4.out (by omega))
        clear hm6 o6
        generalize pc x.to = XT at *
        go_wp2
        go_roundw
        case rel => exact ⟨k + 1, _, _, by go_num, by omega, HT6.out, HMI6.out, HSP.out, HPA6.out, HKK6.out⟩
        case measure => simp [intOf]; omega
      · have he' : (Xe == 0) = false := by simpa using he
        have hXt : Xt = m := HPZ.out.2 he
        subst hXt
        go_wp2
        go_roundw
        case rel => exact ⟨k + 1, _, _, by go_num, by omega, HT4.out, HMI4.out, HPM.out, HPA4.out, HKK4.out⟩
        case measure => simp [intOf]; omega
    · have HTB := Lib.hid tb
      have HMI := Lib.hid mi
      have HPM := Lib.hid hpm
      have HPA := Lib.hid pa
      have HKK := Lib.hid hkp
      have hfew := tb.few
      have HSO := Lib.hid tb.sorted
      clear tb mi hpm pa hkp
      go_wp2_with fail
      refine (all _ _ wr (Tp.of HTB.out)).mono ?_
      rintro e w8 ⟨v8, rfl, o8, b8⟩
      have HR8 := Lib.hid (o8.row elR)
      obtain ⟨a8, c8, e8, _, _⟩ := (o8.row elR).cells.form
      obtain ⟨ML, hML⟩ : ∃ n, m.length = n := ⟨_, rfl⟩
      have HML := Lib.hid hML
      rw [hML] at e8 hfew
      clear hML o8
      subst e8
      have HT8 := Lib.hid (HTB.out.keep b8)
      have HM8 := Lib.hid (HMI.out.keep b8)
      have HP8 := Lib.hid (show At w8 w.heap.size p from ⟨b8.obj HPA.out.block, hp⟩)
      have HK8 := Lib.hid (HKK.out.trans b8)
      clear b8 HTB HMI HPA HKK
      go_wp2
      go_loopw [49] (fun i wr => O2 w8 ML i wr) (fun i _ => ML - (intOf i).toNat)
      case atStart => exact ⟨0, rfl, Nat.zero_le _, Keep.refl _⟩
      case round =>
        obtain ⟨k, rfl, hk, hkp⟩ := hrel
        by_cases hlt : k < ML
        · have hcl : Cells rl w8 (.slice a8 m.length c8) m := by rw [HML.out]; exact HR8.out.cells
          obtain ⟨g, o, cap', e, _, _, _⟩ := hcl.ptr k (by rw [HML.out]; exact hlt)
          rw [HML.out] at e
          simp at e
          obtain ⟨rfl, rfl⟩ := e
          obtain ⟨x, hx⟩ : ∃ x, m[k]? = some x := ⟨_, List.getElem?_eq_getElem (by rw [HML.out]; exact hlt)⟩
          have d1 := (hcl.keep hkp).rt HN.out k x hx
          have hI := RAt.new wr zeroR
          have hst := hI.store x
          have HX3 := Lib.hid (hI.put x)
          have hzx : (rc x).size = n := by rw [HN.out]; exact rc_size _
          have HKA := Lib.hid (show Keep w8 ((wr.alloc (.cells (rc zeroR) 34)).setRow wr.heap.size (rc x)) from hkp.trans (((Keep.refl wr).alloc _).setRow _ _ (Nat.le_refl _)))
          have hgw : getW W x.to = x := by rw [getW_eq HPM.out HSO.out x.ok, get_own HSO.out (List.mem_of_getElem? hx)]
          have dto : ∀ u : KW ((wr.alloc (.cells (rc zeroR) 34)).setRow wr.heap.size (rc x)), (loadCellsFrom ⟨wr.heap.size, 0, none⟩ 0 n2 #[]).run Try.prog u.1 = .ok (pc x.to) u.1 := fun u => (show RAt u.1 wr.heap.size x from HX3.out.keep u.2).to HN2.out
          have dwh : ∀ u : KW ((wr.alloc (.cells (rc zeroR) 34)).setRow wr.heap.size (rc x)), (loadCellsFrom ⟨wr.heap.size, 0, none⟩ 0 n #[]).run Try.prog u.1 = .ok (rc x) u.1 := fun u => (show RAt u.1 wr.heap.size x from HX3.out.keep u.2).whole HN.out
          have dlk : ∀ u : KW ((wr.alloc (.cells (rc zeroR) 34)).setRow wr.heap.size (rc x)), (Instr.lookup 66 (.map (some MB)) (.agg (pc x.to)) false).run Try.prog u.1 = .ok (.agg (rc x)) u.1 := fun u => by
            have := (look (HM8.out.keep (HKA.out.trans u.2)) x.ok).1
            rwa [hgw] at this
          have heq : ∀ w, (Op.equalIn 10000 34 (.agg (rc x)) (.agg (rc x))).run Try.prog w = .ok true w := fun w => by
            rw [show (true : Bool) = decide (x = x) by simp]
            exact eq_rc 9995 x x w
          have HX := Lib.hid hx
          have HCL := Lib.hid hcl
          clear hcl hI hkp hgw hx
          cases k with
          | zero =>
            rw [Nat.zero_mul, Nat.add_zero] at d1
            rw [show (((0 : Nat) : Nat) : Int) = 0 from rfl]
            have hltI : (0 : Int) < ML := by omega
            generalize pc x.to = XT at *
            generalize rc x = XX at *
            generalize (wr.alloc (.cells (rc zeroR) 34)).setRow wr.heap.size XX = w9 at *
            go_wp2_with fail
            refine wp_region_keep (Keep.refl _) (by kernel_rfl) (by kernel_rfl) ?_
            repeat (first | go_big_quiet_step (fail) | quiet_step (fail))
            refine wpQuiet_nil ?_
            rintro w6 ⟨⟨w7, b7⟩, hw6⟩
            obtain rfl : w7 = w6 := hw6.symm
            clear hw6
            have HB7 := Lib.hid (HKA.out.trans b7)
            clear b7 dto dwh dlk heq d1 hst hzx
            go_wp2
            go_roundw
            case rel => exact ⟨1, by go_num, by omega, HB7.out⟩
            case measure => simp [intOf]; omega
          | succ j =>
            obtain ⟨y, hy⟩ : ∃ y, m[j]? = some y := ⟨_, List.getElem?_eq_getElem (by rw [HML.out]; omega)⟩
            have hyx : cmpP y.to x.to < 0 := by
              obtain ⟨h1, e1⟩ := List.getElem?_eq_some_iff.1 hy
              obtain ⟨h2, e2⟩ := List.getElem?_eq_some_iff.1 HX.out
              have := List.pairwise_iff_getElem.1 HSO.out j (j + 1) h1 h2 (by omega)
              rwa [e1, e2] at this
            have dpr : ∀ u : KW ((wr.alloc (.cells (rc zeroR) 34)).setRow wr.heap.size (rc x)), (loadCellsFrom ⟨g, o + j * n, none⟩ 0 n2 #[]).run Try.prog u.1 = .ok (pc y.to) u.1 := fun u => (HCL.out.keep (HKA.out.trans u.2)).to HN2.out HN.out j y hy
            have HCM := Lib.hid (qcompare y.to x.to y.ok x.ok).keep
            have hcd : decide (cmpP y.to x.to ≥ 0) = false := decide_eq_false (by omega)
            clear hy
            rw [show (((j + 1 : Nat) : Nat) : Int) = (j : Int) + 1 by omega]
            have hkI : (j : Int) + 1 > 0 := by omega
            have hkd : decide ((j : Int) + 1 > 0) = true := decide_eq_true hkI
            have hjL : j < ML := by omega
            have hltI : (j : Int) + 1 < ML := by omega
            generalize cmpP y.to x.to = z at *
            generalize pc y.to = YT at *
            generalize pc x.to = XT at *
            generalize rc x = XX at *
            generalize (wr.alloc (.cells (rc zeroR) 34)).setRow wr.heap.size XX = w9 at *
            go_wp2_with fail
            refine wp_region_keep (Keep.refl _) (by kernel_rfl) (by kernel_rfl) ?_
            repeat (first | go_big_quiet_step (fail) | quiet_step (fail))
            first | go_big_quiet_step (exact HCM.out.at _) | quiet_step (exact HCM.out.at _)
            repeat (first | go_big_quiet_step (fail) | quiet_step (fail))
            refine wpQuiet_nil ?_
            rintro w6 ⟨⟨w7, b7⟩, hw6⟩
            obtain rfl : w7 = w6 := hw6.symm
            clear hw6
            have HB7 := Lib.hid (HKA.out.trans b7)
            clear b7 dto dwh dlk heq d1 hst hzx dpr
            go_wp2
            go_roundw
            case rel => exact ⟨j + 2, by go_num, by omega, HB7.out⟩
            case measure => simp [intOf]; omega
        · have HKP := Lib.hid hkp
          have lp := (show At wr w.heap.size p from ⟨hkp.obj HP8.out.block, hp⟩).whole HN2.out
          have HGE := Lib.hid (get _ m p hp wr (Tp.of (HT8.out.keep hkp)))
          have hgp : getW W p = getS m p := getW_eq HPM.out HSO.out hp
          have HGP := Lib.hid hgp
          have hhp := has_perm HPM.out p
          have HHP := Lib.hid hhp
          have HWL := Lib.hid (show W.length = ML from by rw [HPM.out.length_eq, HML.out])
          clear hkp hgp hhp
          obtain ⟨G, hG⟩ : ∃ r, getS m p = r := ⟨_, rfl⟩
          obtain ⟨D, hD⟩ : ∃ d, hasP m p = d := ⟨_, rfl⟩
          rw [hG, hD] at HGE
          rw [hG] at HGP
          rw [hD] at HHP
          clear hG hD
          go_wp2_with fail
          refine HGE.out.mono ?_
          rintro e wA ⟨rfl, bA⟩
          have hIA := RAt.new wA zeroR
          have hstA := hIA.store G
          have HGA := Lib.hid (hIA.put G)
          have hzG : (rc G).size = n := by rw [HN.out]; exact rc_size _
          have HKB := Lib.hid (show Keep w8 ((wA.alloc (.cells (rc zeroR) 34)).setRow wA.heap.size (rc G)) from (HKP.out.trans bA).trans (((Keep.refl wA).alloc _).setRow _ _ (Nat.le_refl _)))
          have heq : ∀ w, (Op.equalIn 10000 34 (.agg (rc G)) (.agg (rc G))).run Try.prog w = .ok true w := fun w => by
            rw [show (true : Bool) = decide (G = G) by simp]
            exact eq_rc 9995 G G w
          obtain ⟨RG, hRG⟩ : ∃ X, rc G = X := ⟨_, rfl⟩
          have HRG := Lib.hid hRG
          rw [hRG] at hstA HGA hzG HKB
          simp only [hRG] at heq ⊢
          clear hRG hIA bA HGE lp
          generalize hwB : (wA.alloc (.cells (rc zeroR) 34)).setRow wA.heap.size RG = wB at *
          have HWB := Lib.hid hwB
          clear hwB
          have lp2 := (show At wB w.heap.size p from ⟨HKB.out.obj HP8.out.block, hp⟩).whole HN2.out
          have hlk := (look (HM8.out.keep HKB.out) hp).2
          rw [HGP.out, HHP.out, HRG.out] at hlk
          have hIB := RAt.new wB zeroR
          have hstB := hIB.store G
          have HGB := Lib.hid (hIB.put G)
          have HKC0 := Lib.hid (show Keep wB ((wB.alloc (.cells (rc zeroR) 34)).setRow wB.heap.size (rc G)) from ((Keep.refl wB).alloc _).setRow _ _ (Nat.le_refl _))
          have HKC := Lib.hid (HKB.out.trans HKC0.out)
          have HGA2 := Lib.hid (show RAt _ wA.heap.size G from HGA.out.keep HKC0.out)
          rw [HRG.out] at hstB HGB HKC HGA2
          have hwhA := HGA2.out.whole HN.out
          have hwhB := HGB.out.whole HN.out
          rw [HRG.out] at hwhA hwhB
          have hln := mlen (HM8.out.keep HKC.out)
          rw [HWL.out] at hln
          have hLL : ((ML : Int) == ML) = true := by simp
          have hDD : (D == D) = true := by simp
          have HFIN := Lib.hid (HK8.out.trans HKC.out)
          clear hIB HKC0 HGA HGB HGA2 HKB HKC
          generalize pc p = PP at *
          generalize (wB.alloc (.cells (rc zeroR) 34)).setRow wB.heap.size RG = wC at *
          go_wp2
          go_ret
          exact ⟨rfl, HFIN.out⟩

open Go.ChangeShapes Go.WideShapes Go.ChangeAt

set_option maxRecDepth 100000 in
theorem lifted (os : Os) (started : os.Started) (H : Type) (enc : TypeId × Value → H) :
    ReturnsInHanded {} Try.checked os 8 .any (Rows.tableOrderSpec.pre6 enc Try.prog Try.f8 Rows.tableOrderRow.domain false) (Rows.tableOrderSpec.post enc Try.prog Try.f8 false true false false) := by
  refine returnsInHanded_of_change (C := Try.checked) own started (by kernel_rfl) Try.func8
    (ChangeSpec.witness6 (enc := enc) (C := Try.checked) false ⟨#[], #[.slice none 0 0, .agg (pc zeroP)], []⟩ 8 (by kernel_rfl) (by kernel_rfl) (by kernel_rfl) (by kernel_rfl)) ?_
  intro W base args ds gs before hval0 hW hcnd _
  have hval : ∀ (j : Nat) t v, Try.f8.params[j]? = some t → args[j]? = some v → Value.okWide Try.prog W .any base t v := hval0
  have hW' := hW
  obtain ⟨p, q, hA0, hV, rfl, hfz, hnd⟩ := hW
  have hA : DataW.TrodAll enc Try.prog W 0 (fun _ => true) true Try.f8.params.toList args.toList ds p := hA0

  rw [Try.params8] at hA hval
  obtain ⟨v0, vs0, d0, ds0, p0, q0, hargs, rfl, rfl, h0, r0⟩ := trodAll_cons hA
  obtain ⟨v1, vs1, d1, ds1, p1, q1, rfl, rfl, rfl, h1, r1⟩ := trodAll_cons r0
  obtain ⟨rfl, rfl, rfl⟩ := trodAll_nil r1
  obtain rfl : args = #[v0, v1] := by cases args; simp_all
  obtain ⟨rfl, rfl⟩ := trodVars_none hV
  have k0 := h0
  have lt0 : ∀ x ∈ p0, x.block < W.heap.size := by obtain ⟨m, hm⟩ := k0; exact DataW.trod_lt m _ _ _ hm
  have k1 := h1
  have lt1 : ∀ x ∈ p1, x.block < W.heap.size := by obtain ⟨m, hm⟩ := k1; exact DataW.trod_lt m _ _ _ hm
  obtain ⟨a0, cap0, l0, rfl, f0⟩ := open_routes (hval 0 31 v0 rfl rfl) h0
  obtain ⟨x1, rfl, f1⟩ := open_prefix (hval 1 25 v1 rfl rfl) h1
  clear hA0 hval0
  refine (walk a0 cap0 l0 x1 W f0 f1).mono fun e W' ⟨he, bel⟩ => ?_
  subst he
  exact ⟨_, rfl, _, _, _, [], _, [], hW', trodAll_mk1 (shut_bool Try.underlying4 _), (trodAll_cons_mk (Below.trod laidOut (by kernel_rfl) (of_decide_eq_true (by kernel_rfl)) k0 bel lt0) (trodAll_cons_mk (Below.trod laidOut (by kernel_rfl) (of_decide_eq_true (by kernel_rfl)) k1 bel lt1) trodAll_mk0)), rfl, bel.frame _, fun h => by cases h⟩

theorem over : Rows.tableOrderRow.holds Try.pinned (OpenSpec.ofChange Rows.tableOrderSpec) :=
  OpenClaim.holds_of_wide 8 Try.f8 rfl rfl rfl rfl rfl rfl rfl ⟨rfl, rfl, rfl, rfl, rfl⟩ rfl rfl rfl rfl rfl (by kernel_rfl) Try.func8 (by kernel_rfl)
    (of_decide_eq_true (by kernel_rfl)) (by unfold Func.isWrapper; first | (rw [if_pos (by decide +kernel)]; kernel_rfl) | (rw [if_neg (by decide +kernel)]; exact ⟨rfl, rfl⟩))
    (fun os started H enc _ => lifted os started H enc)
end Go.Proofs.Ytgocmolebanflaa.LTableOrder

namespace Go.Proofs.Ytgocmolebanflaa
theorem tableOrder_holds : Rows.TableOrderSaid := LTableOrder.over
#print axioms tableOrder_holds
end Go.Proofs.Ytgocmolebanflaa

