/- Proved: for every two lists of calls the law TableCopies returns true (a copy knows nothing of its original; what is told is new memory), and its arguments read behind the call as they read before. No condition. -/
import Derived.Test.YtgocmolebanflaaSm
import Derived.Test.YtgocmolebanflaaOp2
import Derived.ShutString
import Derived.ChangeOld
namespace Go.Proofs.Ytgocmolebanflaa.LTableCopies
open Go.RowKit

theorem new_0 : newE [] = 0 := by
  unfold newE
  rw [if_pos (by simp), if_pos (by simp), if_pos (by simp)]
def oc (o : Ov) : Array Value := (ol o).toArray
def zeroO : Ov := ⟨0, 0, zeroR⟩
theorem oc_size (o : Ov) : (oc o).size = 22 := by simp [oc, ol_len]
theorem info36 : (Try.prog.info? 36).map (fun i => (i.zero, i.size)) = some (some (.agg (oc zeroO)), 22) := by kernel_rfl
theorem oc_one (o : Ov) : ∀ v ∈ (oc o).toList, v.oneCell' = true := by
  intro v hv
  have hv : v ∈ ol o := by simpa [oc] using hv
  rw [ol] at hv
  rcases List.mem_cons.1 hv with rfl | hv
  · rfl
  · rcases List.mem_cons.1 hv with rfl | hv
    · rfl
    · exact rl_one _ v hv
def OAt (w : World) (b : Nat) (o : Ov) : Prop := w.heap[b]? = some (.cells (oc o) 36 (0, 0))
theorem OAt.keep {w w' : World} {b : Nat} {o : Ov} (h : OAt w b o) (k : Keep w w') : OAt w' b o := k.obj h
theorem OAt.new (w : World) (o : Ov) : OAt (w.alloc (.cells (oc o) 36)) w.heap.size o := heap_alloc_last w _
theorem OAt.store {w : World} {b : Nat} {z : Ov} (h : OAt w b z) (o : Ov) : (storeCells ⟨b, 0, none⟩ (oc o).toList).run Try.prog w = .ok () (w.setRow b (oc o)) := by
  have hsc := run_storeCells_from (P := Try.prog) b 36 (oc o).toList 0 (oc z) w h (by rw [oc_size z]; simp [oc_size o]) (oc_one o)
  rw [List.take_zero, List.nil_append, Array.toArray_toList] at hsc
  exact hsc
theorem OAt.put {w : World} {b : Nat} {z : Ov} (h : OAt w b z) (o : Ov) : OAt (w.setRow b (oc o)) b o := block_row h _
theorem OAt.part {w : World} {b n : Nat} {o : Ov} (h : OAt w b o) (L : List Value) (hn : n = L.length) (hL : ∀ (j : Nat) (v : Value), L[j]? = some v → (rl o.r)[j]? = some v) : (loadCellsFrom ⟨b, 2, none⟩ 0 n #[]).run Try.prog w = .ok L.toArray w := by
  refine load_part (P := Try.prog) (o := 2) (n := n) L hn.symm h (fun j v hv => ?_)
  have := hL j v hv
  rw [show 2 + j = j + 1 + 1 by omega]
  simpa [oc, ol] using this
theorem OAt.route {w : World} {b n : Nat} {o : Ov} (h : OAt w b o) (hn : n = 20) : (loadCellsFrom ⟨b, 2, none⟩ 0 n #[]).run Try.prog w = .ok (rc o.r) w := h.part (rl o.r) (by rw [rl_len, hn]) fun _ _ h => h
theorem OAt.to {w : World} {b n : Nat} {o : Ov} (h : OAt w b o) (hn : n = 18) : (loadCellsFrom ⟨b, 2, none⟩ 0 n #[]).run Try.prog w = .ok (pc o.r.to) w := by
  have := h.part (n := n) (pc o.r.to).toList (by rw [pcl _ o.r.ok, hn]) (fun j v hv => by
    rw [rl, List.getElem?_append_left (List.getElem?_eq_some_iff.1 hv).1, hv])
  simpa using this
theorem Cells.op {w : World} {g o cap n : Nat} {l : List Ov} (h : Cells ol w (.slice (some ⟨g, o, none⟩) l.length cap) l) (hn : n = 22) (j : Nat) (x : Ov) (hx : l[j]? = some x) : (loadCellsFrom ⟨g, o + j * n, none⟩ 0 n #[]).run Try.prog w = .ok (oc x) w := by
  have := h.load (P := Try.prog) (n := n) ol_len j x hx 0 22 (ol x) (by rw [List.drop_zero, List.take_of_length_le (by rw [ol_len]; exact Nat.le_refl _)]) (by omega) hn
  rw [Nat.add_zero, ← hn] at this
  exact this
/-- The first one goes. -/
theorem drop_first (x : Rt) (l : List Rt) : dropS (x :: l) x.to = (l, 0) := by
  have hc : ¬ cmpP x.to x.to < 0 := by rw [(cmp_zero x.ok x.ok).2 rfl]; omega
  unfold dropS
  rw [if_pos (by simp [hasP])]
  simp [cutP, rank_cons, hc]

def C1 (w : World) (b N : Nat) (i : Value) (wr : World) : Prop := ∃ (k : Nat) (m : List Rt), i = .int .i64 k ∧ k ≤ N ∧ Tb wr b m ∧ Keep w wr
def C2 (w : World) (b c N : Nat) (m : List Rt) (v i : Value) (wr : World) : Prop := ∃ (k : Nat) (m2 : List Rt), i = .int .i64 k ∧ k ≤ N ∧ Tb wr b m ∧ Tb wr c m2 ∧ Row rl 34 wr v m ∧ Keep w wr
def C3 (w : World) (b c : Nat) (m m2 : List Rt) (v v2 i : Value) (wr : World) : Prop := ∃ k : Nat, i = .int .i64 k ∧ k ≤ m2.length ∧ Tb wr b m ∧ Tb wr c (m2.drop k) ∧ Row rl 34 wr v m ∧ Row rl 34 wr v2 m2 ∧ Keep w wr
def C4 (W : World) (a : Option Addr) (m : List Rt) (M : Nat) (i : Value) (wr : World) : Prop :=
  ∃ k : Nat, i = .int .i64 k ∧ k ≤ M ∧ Keep W wr ∧ (0 < M → ∃ (g : Nat) (cur : Array Value), a = some ⟨g, 0, none⟩ ∧ W.heap.size ≤ g ∧ wr.heap[g]? = some (.cells cur 34 (0, 0)) ∧ ∀ (j : Nat) (x : Rt), m[j]? = some x → k ≤ j → cur[j * 20 + 18]? = some (.int .i64 x.metric))
theorem own_metrics {B : Nat} {w : World} {a : Option Addr} {cap : Nat} {m : List Rt} (h : Own 34 20 rl B w (.slice a m.length cap) m) (hm : 0 < m.length) : ∃ (g : Nat) (cur : Array Value), a = some ⟨g, 0, none⟩ ∧ B ≤ g ∧ w.heap[g]? = some (.cells cur 34 (0, 0)) ∧ ∀ (j : Nat) (x : Rt), m[j]? = some x → cur[j * 20 + 18]? = some (.int .i64 x.metric) := by
  rcases h.2 with ⟨h1, h2⟩ | ⟨g, cap', cur, h1, h2, h3, h4, h5, h6, h7⟩
  · omega
  · simp at h1
    refine ⟨g, cur, h1.1, h2, h3, fun j x hx => ?_⟩
    have hj := (List.getElem?_eq_some_iff.1 hx).1
    have hf := flat_get rl rl_len m j x hx 18 (by omega)
    rw [← h7, List.getElem?_take, if_pos (by omega), rl_metric] at hf
    simpa using hf

set_option maxRecDepth 100000 in
set_option maxHeartbeats 4000000 in
theorem walk (a0 : Option Addr) (p0 : Nat) (l0 : List Ov) (a1 : Option Addr) (p1 : Nat) (l1 : List Ov) (w : World) (hA0 : ArgL ol w a0 p0 l0) (hA1 : ArgL ol w a1 p1 l1) : Calls Try.prog 6 #[.slice a0 l0.length p0, .slice a1 l1.length p1] w fun e w' => e = .returned (.bool true) ∧ Below w.heap.size w w' := by
  have hs0 := hA0.small
  have hs1 := hA1.small
  unfold maxLen at hs0 hs1
  have HA0 := Lib.hid hA0
  have HA1 := Lib.hid hA1
  clear hA0 hA1
  obtain ⟨L0, hL0⟩ : ∃ n, l0.length = n := ⟨_, rfl⟩
  obtain ⟨L1, hL1⟩ : ∃ n, l1.length = n := ⟨_, rfl⟩
  have HL0 := Lib.hid hL0
  have HL1 := Lib.hid hL1
  rw [hL0] at hs0 ⊢
  rw [hL1] at hs1 ⊢
  clear hL0 hL1
  by_cases hbig : wrap64 ((L0 : Int) + L1) > 200
  · go_enter Try.func6, Try.ntmps6
    go_wp2_with fail
    refine (awake _).mono ?_
    rintro e w1 ⟨rfl, b1⟩
    go_wp2_with fail
    refine (awake _).mono ?_
    rintro e w2 ⟨rfl, b2⟩
    go_wp2
    go_ret
    exact ⟨rfl, b1.trans b2⟩
  · obtain ⟨hz36, _⟩ := zero_of_info info36
    obtain ⟨hz34, _⟩ := zero_of_info info34b
    obtain ⟨n, hn⟩ : ∃ n, n = 20 := ⟨20, rfl⟩
    have hsz : ∀ w, (Go.sizeOf 34).run Try.prog w = .ok n w := fun w => by rw [hn]; exact Try.sizeOf34 w
    have hn0 : ¬ n = 0 := by omega
    obtain ⟨n2, hn2⟩ : ∃ n, n = 18 := ⟨18, rfl⟩
    have hsz2 : ∀ w, (Go.sizeOf 25).run Try.prog w = .ok n2 w := fun w => by rw [hn2]; exact Try.sizeOf25 w
    have hn20 : ¬ n2 = 0 := by omega
    obtain ⟨n3, hn3⟩ : ∃ n, n = 22 := ⟨22, rfl⟩
    have hsz3 : ∀ w, (Go.sizeOf 36).run Try.prog w = .ok n3 w := fun w => by rw [hn3]; exact Try.sizeOf36 w
    have hn30 : ¬ n3 = 0 := by omega
    have hzs : (rc zeroR).size = n := by rw [hn]; exact rc_size _
    have hzo : (oc zeroO).size = n3 := by rw [hn3]; exact oc_size _
    have HN := Lib.hid hn
    have HN2 := Lib.hid hn2
    have HN3 := Lib.hid hn3
    clear hn hn2 hn3
    go_enter Try.func6, Try.ntmps6
    go_wp2_with fail
    refine (awake _).mono ?_
    rintro e w1 ⟨rfl, b1⟩
    go_wp2_with fail
    refine (new_of _ [] [] w1 (Cells.nil w1) (by simp) new_0 Sorted.nil (List.Perm.refl _)).mono ?_
    rintro e w2 ⟨b, rfl, hb, tb, b2⟩
    have HT2 := Lib.hid tb
    have HK2 := Lib.hid (b1.trans b2)
    have hbw : w.heap.size ≤ b := Nat.le_trans b1.size hb
    clear tb b1 b2 hb
    go_wp2
    go_loopw [34] (fun i wr => C1 w b L0 i wr) (fun i _ => L0 - (intOf i).toNat)
    case atStart => exact ⟨0, [], rfl, Nat.zero_le _, HT2.out, HK2.out⟩
    case round =>
      clear HT2 HK2
      obtain ⟨k, m, rfl, hk, tb, hkp⟩ := hrel
      by_cases hlt : k < L0
      · have hne : l0 ≠ [] := fun e => by have := HL0.out; rw [e] at this; simp at this; omega
        have hcl := (HA0.out.keep hkp).cells hne
        obtain ⟨g, o, cap', e, _, _, _⟩ := hcl.ptr k (by rw [HL0.out]; exact hlt)
        simp at e
        obtain ⟨rfl, rfl⟩ := e
        obtain ⟨x, hx⟩ : ∃ x, l0[k]? = some x := ⟨_, List.getElem?_eq_getElem (by rw [HL0.out]; exact hlt)⟩
        have d1 := Cells.op hcl HN3.out k x hx
        have hI := OAt.new wr zeroO
        have hst := hI.store x
        have hl3 := (hI.put x).route HN.out
        have hzx : (oc x).size = n3 := by rw [HN3.out]; exact oc_size _
        have HKA := Lib.hid (show Keep wr ((wr.alloc (.cells (oc zeroO) 36)).setRow wr.heap.size (oc x)) from ((Keep.refl wr).alloc _).setRow _ _ (Nat.le_refl _))
        have HTB := Lib.hid (tb.keep HKA.out)
        have HKK := Lib.hid (hkp.trans HKA.out)
        have HPU := Lib.hid (put b m x.r _ HTB.out)
        clear hcl hI hx tb hkp HKA
        generalize oc x = X at *
        generalize rc x.r = R at *
        generalize (wr.alloc (.cells (oc zeroO) 36)).setRow wr.heap.size X = w3 at *
        go_wp2_with fail
        refine HPU.out.mono ?_
        rintro e w4 ⟨rfl, t4, o4⟩
        have HKK4 := Lib.hid (o4.made HKK.out hbw)
        have HT4 := Lib.hid t4
        clear o4 t4 d1 hst hl3 hzx
        go_wp2
        go_roundw
        case rel => exact ⟨k + 1, _, by go_num, by omega, HT4.out, HKK4.out⟩
        case measure => simp [intOf]; omega
      · have HTB := Lib.hid tb
        have HKK := Lib.hid hkp
        clear tb hkp
        go_wp2_with fail
        refine (copy _ _ _ HTB.out).mono ?_
        rintro e w3 ⟨c, rfl, hc, tc, b3⟩
        have HT3 := Lib.hid (HTB.out.keep b3)
        have HC3 := Lib.hid tc
        have HK3 := Lib.hid (HKK.out.trans b3)
        have hbc : b ≠ c := by obtain ⟨⟨_, h, _⟩, _, _⟩ := HTB.out; have := block_lt h; omega
        have hcw : w.heap.size ≤ c := Nat.le_trans HKK.out.size hc
        clear tc b3 hc HTB HKK
        go_wp2_with fail
        refine (all _ _ _ (Tp.of HT3.out)).mono ?_
        rintro e w4 ⟨v4, rfl, o4, b4⟩
        have HR4 := Lib.hid (o4.row elR)
        have HT4 := Lib.hid (HT3.out.keep b4)
        have HC4 := Lib.hid (HC3.out.keep b4)
        have HK4 := Lib.hid (HK3.out.trans b4)
        clear o4 b4 HT3 HC3 HK3
        go_wp2
        go_loopw [49] (fun i wr => C2 w b c L1 m v4 i wr) (fun i _ => L1 - (intOf i).toNat)
        case atStart => exact ⟨0, m, rfl, Nat.zero_le _, HT4.out, HC4.out, HR4.out, HK4.out⟩
        case round =>
          clear HT4 HC4 HR4 HK4
          obtain ⟨k2, m2, rfl, hk2, tb, tc, rv, hkp⟩ := hrel
          by_cases hlt2 : k2 < L1
          · have hne : l1 ≠ [] := fun e => by have := HL1.out; rw [e] at this; simp at this; omega
            have hcl := (HA1.out.keep hkp).cells hne
            obtain ⟨g, o, cap', e, _, _, _⟩ := hcl.ptr k2 (by rw [HL1.out]; exact hlt2)
            simp at e
            obtain ⟨rfl, rfl⟩ := e
            obtain ⟨x, hx⟩ : ∃ x, l1[k2]? = some x := ⟨_, List.getElem?_eq_getElem (by rw [HL1.out]; exact hlt2)⟩
            have d1 := Cells.op hcl HN3.out k2 x hx
            have hI := OAt.new wr zeroO
            have hst := hI.store x
            have hl3 := (hI.put x).route HN.out
            have HO3 := Lib.hid (hI.put x)
            have hzx : (oc x).size = n3 := by rw [HN3.out]; exact oc_size _
            have HKA := Lib.hid (show Keep wr ((wr.alloc (.cells (oc zeroO) 36)).setRow wr.heap.size (oc x)) from ((Keep.refl wr).alloc _).setRow _ _ (Nat.le_refl _))
            have HTB := Lib.hid (tb.keep HKA.out)
            have HTC := Lib.hid (tc.keep HKA.out)
            have HRV := Lib.hid (rv.keep HKA.out)
            have HKK := Lib.hid (hkp.trans HKA.out)
            have HPU := Lib.hid (put c m2 x.r _ HTC.out)
            have hwc : c ≠ wr.heap.size := by obtain ⟨⟨_, h, _⟩, _, _⟩ := tc; have := block_lt h; omega
            clear hcl hI hx tb tc rv hkp HKA
            generalize oc x = X at *
            generalize rc x.r = R at *
            generalize (wr.alloc (.cells (oc zeroO) 36)).setRow wr.heap.size X = w3 at *
            go_wp2_with fail
            refine HPU.out.mono ?_
            rintro e w5 ⟨rfl, t5, o5⟩
            have HTB5 := Lib.hid (HTB.out.only HTC.out o5 hbc)
            have HRV5 := Lib.hid (Tb.row HRV.out HTC.out o5 (by decide))
            have HKK5 := Lib.hid (o5.made HKK.out hcw)
            have HO5 := Lib.hid (show OAt w5 wr.heap.size x from o5.obj HO3.out (Ne.symm hwc))
            have l5 := HO5.out.to HN2.out
            have HT5 := Lib.hid t5
            have HDR := Lib.hid (drop c _ x.r.to x.r.ok w5 t5)
            clear o5 t5 d1 hst hl3 hzx HTB HTC HRV HKK HO3
            go_wp2_with fail
            refine HDR.out.mono ?_
            rintro e w6 ⟨rfl, t6, o6⟩
            have HTB6 := Lib.hid (HTB5.out.only HT5.out o6 hbc)
            have HRV6 := Lib.hid (Tb.row HRV5.out HT5.out o6 (by decide))
            have HKK6 := Lib.hid (o6.made HKK5.out hcw)
            have HT6 := Lib.hid t6
            clear o6 t6 l5 HTB5 HRV5 HKK5 HO5 HT5
            go_wp2
            go_roundw
            case rel => exact ⟨k2 + 1, _, by go_num, by omega, HTB6.out, HT6.out, HRV6.out, HKK6.out⟩
            case measure => simp [intOf]; omega
          · have HTB := Lib.hid tb
            have HTC := Lib.hid tc
            have HRV := Lib.hid rv
            have HKK := Lib.hid hkp
            clear tb tc rv hkp
            go_wp2_with fail
            refine (all _ _ _ (Tp.of HTC.out)).mono ?_
            rintro e w5 ⟨v5, rfl, o5, b5⟩
            have HR5 := Lib.hid (o5.row elR)
            have HTB5 := Lib.hid (HTB.out.keep b5)
            have HTC5 := Lib.hid (HTC.out.keep b5)
            have HRV5 := Lib.hid (HRV.out.keep b5)
            have HKK5 := Lib.hid (HKK.out.trans b5)
            have hfew := HTC.out.few
            obtain ⟨a5, c5, e5, _, _⟩ := (o5.row elR).cells.form
            obtain ⟨M2, hM2⟩ : ∃ n, m2.length = n := ⟨_, rfl⟩
            have HM2 := Lib.hid hM2
            rw [hM2] at e5 hfew
            clear hM2 o5 b5 HTB HTC HRV HKK
            subst e5
            go_wp2
            go_loopw [66] (fun i wr => C3 w b c m m2 v4 (.slice a5 M2 c5) i wr) (fun i _ => M2 - (intOf i).toNat)
            case atStart => exact ⟨0, rfl, Nat.zero_le _, HTB5.out, HTC5.out, HRV5.out, HR5.out, HKK5.out⟩
            case round =>
              clear HTB5 HTC5 HRV5 HR5 HKK5
              obtain ⟨k3, rfl, hk3, tb, tc, rv, rv2, hkp⟩ := hrel
              rw [HM2.out] at hk3
              by_cases hlt3 : k3 < M2
              · have hcl : Cells rl wr (.slice a5 m2.length c5) m2 := by rw [HM2.out]; exact rv2.cells
                obtain ⟨g, o, cap', e, _, _, _⟩ := hcl.ptr k3 (by rw [HM2.out]; exact hlt3)
                rw [HM2.out] at e
                simp at e
                obtain ⟨rfl, rfl⟩ := e
                obtain ⟨x, hx⟩ : ∃ x, m2[k3]? = some x := ⟨_, List.getElem?_eq_getElem (by rw [HM2.out]; exact hlt3)⟩
                have d1 := hcl.rt HN.out k3 x hx
                have hI := RAt.new wr zeroR
                have hst := hI.store x
                have hl3 := (hI.put x).to HN2.out
                have hzx : (rc x).size = n := by rw [HN.out]; exact rc_size _
                have HKA := Lib.hid (show Keep wr ((wr.alloc (.cells (rc zeroR) 34)).setRow wr.heap.size (rc x)) from ((Keep.refl wr).alloc _).setRow _ _ (Nat.le_refl _))
                have HTB := Lib.hid (tb.keep HKA.out)
                have HTC := Lib.hid (tc.keep HKA.out)
                have HRV := Lib.hid (rv.keep HKA.out)
                have HRV2 := Lib.hid (rv2.keep HKA.out)
                have HKK := Lib.hid (hkp.trans HKA.out)
                have HDR := Lib.hid (drop c _ x.to x.ok _ HTC.out)
                rw [drop_cons' hx, drop_first] at HDR
                clear hcl hI hx tb tc rv rv2 hkp HKA
                generalize rc x = X at *
                generalize (wr.alloc (.cells (rc zeroR) 34)).setRow wr.heap.size X = w3 at *
                go_wp2_with fail
                refine HDR.out.mono ?_
                rintro e w6 ⟨rfl, t6, o6⟩
                have HTB6 := Lib.hid (HTB.out.only HTC.out o6 hbc)
                have HRV6 := Lib.hid (Tb.row HRV.out HTC.out o6 (by decide))
                have HRW6 := Lib.hid (Tb.row HRV2.out HTC.out o6 (by decide))
                have HKK6 := Lib.hid (o6.made HKK.out hcw)
                have HT6 := Lib.hid t6
                clear o6 t6 d1 hst hl3 hzx HTB HTC HRV HRV2 HKK
                go_wp2
                go_roundw
                case rel => exact ⟨k3 + 1, by go_num, by rw [HM2.out]; omega, HTB6.out, HT6.out, HRV6.out, HRW6.out, HKK6.out⟩
                case measure => simp [intOf]; omega
              · have htc : Tb wr c [] := by
                  have := tc
                  rwa [List.drop_of_length_le (by rw [HM2.out]; omega)] at this
                have HTB := Lib.hid tb
                have HTC := Lib.hid htc
                have HRV := Lib.hid rv
                have HKK := Lib.hid hkp
                clear tb tc rv rv2 hkp htc
                go_wp2_with fail
                refine (all _ _ _ (Tp.of HTB.out)).mono ?_
                rintro e w7 ⟨v7, rfl, o7, b7⟩
                have hfm := HTB.out.few
                obtain ⟨a7, c7, e7, _, _⟩ := (o7.row elR).cells.form
                obtain ⟨M, hM⟩ : ∃ n, m.length = n := ⟨_, rfl⟩
                have HM := Lib.hid hM
                have HO7 := Lib.hid o7
                rw [hM] at e7 hfm
                have HTB7 := Lib.hid (HTB.out.keep b7)
                have HTC7 := Lib.hid (HTC.out.keep b7)
                have HRV7 := Lib.hid (HRV.out.keep b7)
                have HKK7 := Lib.hid (HKK.out.trans b7)
                have HB7 := Lib.hid b7
                clear o7 b7 hM
                subst e7
                have h47 : Hid (0 < M → ∃ (g : Nat) (cur : Array Value), a7 = some ⟨g, 0, none⟩ ∧ wr.heap.size ≤ g ∧ w7.heap[g]? = some (.cells cur 34 (0, 0)) ∧ ∀ (j : Nat) (x : Rt), m[j]? = some x → cur[j * 20 + 18]? = some (.int .i64 x.metric)) := fun h0 => own_metrics (show Own 34 20 rl wr.heap.size w7 (.slice a7 m.length c7) m from by rw [HM.out]; exact HO7.out) (by rw [HM.out]; exact h0)
                go_wp2
                go_loopw [79] (fun i wz => C4 wr a7 m M i wz) (fun i _ => M - (intOf i).toNat)
                case atStart => exact ⟨0, rfl, Nat.zero_le _, HB7.out, fun h0 => by
                  obtain ⟨g, cur, q1, q2, q3, q4⟩ := h47.out h0
                  exact ⟨g, cur, q1, q2, q3, fun j x hx _ => q4 j x hx⟩⟩
                case round =>
                  clear h47 HO7
                  obtain ⟨k4, rfl, hk4, hkp, hcur⟩ := hrel
                  by_cases hlt4 : k4 < M
                  · obtain ⟨g, cur, rfl, hg, hb, hmt⟩ := hcur (by omega)
                    obtain ⟨x, hx⟩ : ∃ x, m[k4]? = some x := ⟨_, List.getElem?_eq_getElem (by rw [HM.out]; exact hlt4)⟩
                    have hc1 : wr.cell? ⟨g, k4 * n + 18, none⟩ = some (.int .i64 x.metric) := by rw [HN.out]; exact cell_obj hb (hmt k4 x hx (Nat.le_refl _))
                    have hf1 : wr.frozen? ⟨g, k4 * n + 18, none⟩ = false := by simp [World.frozen?, hb]
                    have HB := Lib.hid hb
                    have HMT := Lib.hid hmt
                    have HKP := Lib.hid hkp
                    clear hb hmt hkp hx hcur
                    go_wp2
                    go_roundw
                    case rel =>
                      refine ⟨k4 + 1, by go_num, by omega, HKP.out.setCell g _ _ hg, fun _ => ⟨g, _, rfl, hg, block_set HB.out _ _, fun j y hy hj => ?_⟩⟩
                      rw [HN.out, Array.getElem?_setIfInBounds_ne (by omega)]
                      exact HMT.out j y hy (by omega)
                    case measure => simp [intOf]; omega
                  · have HT9 := Lib.hid (HTB.out.keep hkp)
                    have HC9 := Lib.hid (HTC.out.keep hkp)
                    have HR9 := Lib.hid (HRV.out.keep hkp)
                    have HK9 := Lib.hid (HKK.out.trans hkp)
                    clear hcur hkp
                    go_wp2_with fail
                    refine (len_at _ _ _ (Tp.of HC9.out)).mono ?_
                    rintro e w10 ⟨rfl, b10⟩
                    go_wp2_with fail
                    refine (all _ _ _ (Tp.of (HT9.out.keep b10))).mono ?_
                    rintro e w11 ⟨v11, rfl, o11, b11⟩
                    have HQ := Lib.hid (qsame v11 v4 m m w11 (o11.row elR).cells (HR9.out.keep (b10.trans b11)).cells (by rw [HM.out]; omega) (by rw [HM.out]; omega))
                    rw [decide_eq_true rfl] at HQ
                    have HK11 := Lib.hid (HK9.out.trans (b10.trans b11))
                    clear o11 b10 b11
                    go_wp2_with fail
                    refine HQ.out.mono ?_
                    rintro e w12 ⟨rfl, b12⟩
                    go_wp2
                    go_ret
                    exact ⟨rfl, HK11.out.trans b12⟩

open Go.ChangeShapes Go.WideShapes Go.ChangeAt

set_option maxRecDepth 100000 in
theorem lifted (os : Os) (started : os.Started) (H : Type) (enc : TypeId × Value → H) :
    ReturnsInHanded {} Try.checked os 6 .any (Rows.tableCopiesSpec.pre6 enc Try.prog Try.f6 Rows.tableCopiesRow.domain false) (Rows.tableCopiesSpec.post enc Try.prog Try.f6 false true false false) := by
  refine returnsInHanded_of_change (C := Try.checked) own started (by kernel_rfl) Try.func6
    (ChangeSpec.witness6 (enc := enc) (C := Try.checked) false ⟨#[], #[.slice none 0 0, .slice none 0 0], []⟩ 8 (by kernel_rfl) (by kernel_rfl) (by kernel_rfl) (by kernel_rfl)) ?_
  intro W base args ds gs before hval0 hW hcnd _
  have hval : ∀ (j : Nat) t v, Try.f6.params[j]? = some t → args[j]? = some v → Value.okWide Try.prog W .any base t v := hval0
  have hW' := hW
  obtain ⟨p, q, hA0, hV, rfl, hfz, hnd⟩ := hW
  have hA : DataW.TrodAll enc Try.prog W 0 (fun _ => true) true Try.f6.params.toList args.toList ds p := hA0

  rw [Try.params6] at hA hval
  obtain ⟨v0, vs0, d0, ds0, p0, q0, hargs, rfl, rfl, h0, r0⟩ := trodAll_cons hA
  obtain ⟨v1, vs1, d1, ds1, p1, q1, rfl, rfl, rfl, h1, r1⟩ := trodAll_cons r0
  obtain ⟨rfl, rfl, rfl⟩ := trodAll_nil r1
  obtain rfl : args = #[v0, v1] := by cases args; simp_all
  obtain ⟨rfl, rfl⟩ := trodVars_none hV
  have k0 := h0
  have lt0 : ∀ x ∈ p0, x.block < W.heap.size := by obtain ⟨m, hm⟩ := k0; exact DataW.trod_lt m _ _ _ hm
  have k1 := h1
  have lt1 : ∀ x ∈ p1, x.block < W.heap.size := by obtain ⟨m, hm⟩ := k1; exact DataW.trod_lt m _ _ _ hm
  obtain ⟨a0, cap0, l0, rfl, f0⟩ := open_ops (hval 0 22 v0 rfl rfl) h0
  obtain ⟨a1, cap1, l1, rfl, f1⟩ := open_ops (hval 1 22 v1 rfl rfl) h1
  clear hA0 hval0
  refine (walk a0 cap0 l0 a1 cap1 l1 W f0 f1).mono fun e W' ⟨he, bel⟩ => ?_
  subst he
  exact ⟨_, rfl, _, _, _, [], _, [], hW', trodAll_mk1 (shut_bool Try.underlying4 _), (trodAll_cons_mk (Below.trod laidOut (by kernel_rfl) (of_decide_eq_true (by kernel_rfl)) k0 bel lt0) (trodAll_cons_mk (Below.trod laidOut (by kernel_rfl) (of_decide_eq_true (by kernel_rfl)) k1 bel lt1) trodAll_mk0)), rfl, bel.frame _, fun h => by cases h⟩

theorem over : Rows.tableCopiesRow.holds Try.pinned (OpenSpec.ofChange Rows.tableCopiesSpec) :=
  OpenClaim.holds_of_wide 6 Try.f6 rfl rfl rfl rfl rfl rfl rfl ⟨rfl, rfl, rfl, rfl, rfl⟩ rfl rfl rfl rfl rfl (by kernel_rfl) Try.func6 (by kernel_rfl)
    (of_decide_eq_true (by kernel_rfl)) (by unfold Func.isWrapper; first | (rw [if_pos (by decide +kernel)]; kernel_rfl) | (rw [if_neg (by decide +kernel)]; exact ⟨rfl, rfl⟩))
    (fun os started H enc _ => lifted os started H enc)
end Go.Proofs.Ytgocmolebanflaa.LTableCopies

namespace Go.Proofs.Ytgocmolebanflaa
theorem tableCopies_holds : Rows.TableCopiesSaid := LTableCopies.over
#print axioms tableCopies_holds
end Go.Proofs.Ytgocmolebanflaa

