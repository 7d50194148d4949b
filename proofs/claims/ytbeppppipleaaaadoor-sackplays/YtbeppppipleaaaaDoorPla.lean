/- Proved: for every int and every list of calls the law SackPlays returns true (in every order of calls what is there, what is missing, and what is told, is the document's), and its arguments read behind the call as they read before. Condition, by the row's own list: math/bits.deBruijn64tab starts as the program's text lays it (the card ties that). -/
import Derived.Test.YtbeppppipleaaaaDoorFi
import Derived.Deep.CutRange
import Derived.Deep.CutBlock
import Derived.Deep.RegionHeld3
import Derived.Deep.RegionHeldLaw
namespace Go.Proofs.YtbeppppipleaaaaDoor.LSackPlays
open Go.RowKit

def oc (o : Oq) : Array Value := (ol o).toArray
def zeroO : Oq := ⟨0, 0, 0, [], by omega, by omega⟩
theorem oc_size (o : Oq) : (oc o).size = 4 := rfl
theorem oc_one (o : Oq) : ∀ v ∈ (oc o).toList, v.oneCell' = true := by
  intro v hv
  have hv : v ∈ ol o := by simpa [oc] using hv
  simp only [ol, List.mem_cons, List.not_mem_nil, or_false] at hv
  rcases hv with rfl | rfl | rfl | rfl <;> rfl
theorem infoO : (Tryd.prog.info? 30).map (fun i => (i.zero, i.size)) = some (some (.agg (oc zeroO)), 4) := by kernel_rfl
def OAt (w : World) (b : Nat) (o : Oq) : Prop := w.heap[b]? = some (.cells (oc o) 30 (0, 0))
theorem OAt.keep {w w' : World} {b : Nat} {o : Oq} (h : OAt w b o) (k : Keep w w') : OAt w' b o := k.obj h
theorem OAt.new (w : World) (o : Oq) : OAt (w.alloc (.cells (oc o) 30)) w.heap.size o := heap_alloc_last w _
theorem OAt.store {w : World} {b : Nat} {z : Oq} (h : OAt w b z) (o : Oq) : (storeCells ⟨b, 0, none⟩ (oc o).toList).run Tryd.prog w = .ok () (w.setRow b (oc o)) := by
  have hsc := run_storeCells_from (P := Tryd.prog) b 30 (oc o).toList 0 (oc z) w h (by rw [oc_size z]; simp [oc_size o]) (oc_one o)
  rw [List.take_zero, List.nil_append, Array.toArray_toList] at hsc
  exact hsc
theorem OAt.put {w : World} {b : Nat} {z : Oq} (h : OAt w b z) (o : Oq) : OAt (w.setRow b (oc o)) b o := block_row h _
theorem OAt.c0 {w : World} {b : Nat} {o : Oq} (h : OAt w b o) : w.cell? ⟨b, 0, none⟩ = some (.int .i64 o.kind) := cell_obj h rfl
theorem OAt.c1 {w : World} {b : Nat} {o : Oq} (h : OAt w b o) : w.cell? ⟨b, 1, none⟩ = some (.int .i64 o.n) := cell_obj h rfl
theorem OAt.c2 {w : World} {b : Nat} {o : Oq} (h : OAt w b o) : w.cell? ⟨b, 2, none⟩ = some (.int .i64 o.m) := cell_obj h rfl
theorem OAt.c3 {w : World} {b : Nat} {o : Oq} (h : OAt w b o) : w.cell? ⟨b, 3, none⟩ = some (.string ⟨o.s.toArray⟩) := cell_obj h rfl
theorem Cells.op {w : World} {g o cap n : Nat} {l : List Oq} (h : Cells ol w (.slice (some ⟨g, o, none⟩) l.length cap) l) (hn : n = 4) (j : Nat) (x : Oq) (hx : l[j]? = some x) : (loadCellsFrom ⟨g, o + j * n, none⟩ 0 n #[]).run Tryd.prog w = .ok (oc x) w := by
  have := h.load (P := Tryd.prog) (n := n) ol_len j x hx 0 4 (ol x) rfl (by omega) hn
  rw [Nat.add_zero, ← hn] at this
  exact this
theorem Own.mono {B B' : Nat} {w : World} {v : Value} {l : List Bool} (h : OwnO B w v l) (hb : B' ≤ B) : OwnO B' w v l := by
  refine ⟨h.1, ?_⟩
  rcases h.2 with h1 | ⟨g, cap, cur, h1, h2, h3⟩
  · exact .inl h1
  · exact .inr ⟨g, cap, cur, h1, by omega, h3⟩
theorem Own.other {B b : Nat} {w w' : World} {v : Value} {l : List Bool} {c : Array Value} {t' : TypeId} {fz : Nat × Nat} (h : OwnO B w v l) (k : Only b w w') (hb : w.heap[b]? = some (.cells c t' fz)) (ht : 4 ≠ t') : OwnO B w' v l := by
  refine ⟨h.1, ?_⟩
  rcases h.2 with h1 | ⟨g, cap, cur, h1, h2, h3, h4⟩
  · exact .inl h1
  · have hg : g ≠ b := fun e => by
      subst e
      rw [hb] at h3
      simp at h3
      exact ht h3.2.1.symm
    exact .inr ⟨g, cap, cur, h1, h2, k.obj h3 hg, h4⟩
theorem Own.ne {B g n cap b : Nat} {w : World} {l : List Bool} {c : Array Value} {t' : TypeId} {fz : Nat × Nat} (h : OwnO B w (.slice (some ⟨g, 0, none⟩) n cap) l) (hb : w.heap[b]? = some (.cells c t' fz)) (ht : 4 ≠ t') : b ≠ g := by
  rcases h.2 with ⟨h1, _⟩ | ⟨g', cap', cur, h1, _, h3, _⟩
  · simp at h1
  · simp only [Value.slice.injEq, Option.some.injEq, Addr.mk.injEq, and_true] at h1
    obtain ⟨rfl, _⟩ := h1
    intro e
    subst e
    rw [hb] at h3
    simp at h3
    exact ht h3.2.1.symm
theorem setB_cases (l : List Bool) (i : Int) : (i < 0 ∧ setB l i = false) ∨ ((l.length : Int) ≤ i ∧ setB l i = false) ∨ ∃ j : Nat, i = j ∧ j < l.length ∧ setB l i = !l.getD j false := by
  unfold setB
  by_cases h0 : 0 ≤ i
  · obtain ⟨j, rfl⟩ := Int.eq_ofNat_of_zero_le h0
    by_cases h1 : j < l.length
    · exact .inr (.inr ⟨j, rfl, h1, by rw [hasB_nat, decide_eq_true h0, decide_eq_true (by omega : (j : Int) < l.length)]; rfl⟩)
    · exact .inr (.inl ⟨by omega, by rw [decide_eq_false (by omega : ¬ (j : Int) < l.length), Bool.false_and, Bool.and_false]⟩)
  · exact .inl ⟨by omega, by rw [decide_eq_false h0]; rfl⟩
def Pl (w : World) (b N L : Nat) (v i : Value) (wr : World) : Prop := ∃ (k : Nat) (l : List Bool), i = .int .i64 k ∧ k ≤ L ∧ l.length = N ∧ M wr b l ∧ OwnO w.heap.size wr v l ∧ Keep w wr

set_option maxRecDepth 100000 in
set_option maxHeartbeats 4000000 in
theorem walk (n : Int) (a : Option Addr) (cap : Nat) (xs : List Oq) (w : World) (hn : -9223372036854775808 ≤ n ∧ n ≤ 9223372036854775807) (hA : ArgL ol w a cap xs) (ht : Tab w) : Calls Tryd.prog 3 #[.int .i64 n, .slice a xs.length cap] w fun e w' => e = .returned (.bool true) ∧ Keep w w' := by
  have HT := Lib.hid ht
  have HA := Lib.hid hA
  have hsm := hA.small
  unfold maxLen at hsm
  clear ht hA
  obtain ⟨L, hL⟩ : ∃ L, xs.length = L := ⟨_, rfl⟩
  have HL := Lib.hid hL
  rw [hL] at hsm ⊢
  clear hL
  by_cases hbig : 200 < L
  · have hbI : decide ((L : Int) > 200) = true := decide_eq_true (by omega)
    go_enter Tryd.func3, Tryd.ntmps3
    go_wp2_with fail
    refine (awake w HT.out).mono ?_
    rintro e w2 ⟨rfl, k2⟩
    go_wp2_with fail
    refine (awake w2 (HT.out.keep k2)).mono ?_
    rintro e w3 ⟨rfl, k3⟩
    go_wp2
    go_ret
    exact ⟨rfl, k2.trans k3⟩
  have hbI : decide ((L : Int) > 200) = false := decide_eq_false (by omega)
  by_cases hbig2 : 256 < n
  · have hnI : decide (n > 256) = true := decide_eq_true (by omega)
    go_enter Tryd.func3, Tryd.ntmps3
    go_wp2_with fail
    refine (awake w HT.out).mono ?_
    rintro e w2 ⟨rfl, k2⟩
    go_wp2_with fail
    refine (awake w2 (HT.out.keep k2)).mono ?_
    rintro e w3 ⟨rfl, k3⟩
    go_wp2
    go_ret
    exact ⟨rfl, k2.trans k3⟩
  have hnI : decide (n > 256) = false := decide_eq_false (by omega)
  by_cases hneg : n < 1
  · have hb := new_bad n
    go_enter Tryd.func3, Tryd.ntmps3
    go_wp2_with fail
    refine (awake w HT.out).mono ?_
    rintro e w2 ⟨rfl, k2⟩
    go_wp2_with fail
    refine (hb w2 (.inl hneg)).mono ?_
    rintro e w3 ⟨rfl, rfl⟩
    go_wp2
    go_ret
    exact ⟨rfl, k2⟩
  obtain ⟨N, rfl⟩ := Int.eq_ofNat_of_zero_le (show 0 ≤ n by omega)
  have hN1 : 1 ≤ N := by omega
  have hN2 : N ≤ 256 := by omega
  obtain ⟨hzO, _⟩ := zero_of_info infoO
  obtain ⟨n4, hn4⟩ : ∃ n, n = 4 := ⟨4, rfl⟩
  have hsz : ∀ w, (Go.sizeOf 30).run Tryd.prog w = .ok n4 w := fun w => by rw [hn4]; exact Tryd.sizeOf30 w
  have hn0 : ¬ n4 = 0 := by omega
  have hzs : (oc zeroO).size = n4 := by rw [hn4]; rfl
  have HN4 := Lib.hid hn4
  clear hn4 hbig2
  go_enter Tryd.func3, Tryd.ntmps3
  go_wp2_with fail
  refine (awake w HT.out).mono ?_
  rintro e w1 ⟨rfl, k1⟩
  go_wp2_with fail
  refine (new_at N hN1 hN2 w1 (HT.out.keep k1)).mono ?_
  rintro e w2 ⟨b, rfl, hb, m2, k2⟩
  obtain ⟨w3, hmk, hO3, k3⟩ := make_bools N hN2 w2
  have hbw : w.heap.size ≤ b := by have := k1.size; omega
  have H0 := Lib.hid (show Pl w b N L (.slice (some ⟨w2.heap.size, 0, none⟩) N N) (.int .i64 0) w3 from ⟨0, _, rfl, Nat.zero_le _, List.length_replicate, m2.keep k3, Own.mono hO3 (by have := k1.size; have := k2.size; omega), (k1.trans k2).trans k3⟩)
  clear m2 k1 k2 hO3 k3
  go_wp2
  go_loopw [7, 43] (fun v i wr => Pl w b N L v i wr) (fun _ i _ => L - (intOf i).toNat)
  case atStart => exact H0.out
  case round =>
    obtain ⟨k, l, rfl, hk, hlN, hM, hO, hK⟩ := hrel
    have HM := Lib.hid hM
    have HO := Lib.hid hO
    have HK := Lib.hid hK
    clear hM hO hK H0 hmk
    by_cases hlt : k < L
    · have hne : xs ≠ [] := fun e => by have := HL.out; rw [e] at this; simp at this; omega
      have hcl := (HA.out.keep HK.out).cells hne
      obtain ⟨g, o, cap', e, _, _, _⟩ := hcl.ptr k (by rw [HL.out]; exact hlt)
      simp at e
      obtain ⟨rfl, rfl⟩ := e
      obtain ⟨x, hx⟩ : ∃ x, xs[k]? = some x := ⟨_, List.getElem?_eq_getElem (by rw [HL.out]; exact hlt)⟩
      have d1 := Cells.op hcl HN4.out k x hx
      have hI := OAt.new wr zeroO
      have hst := hI.store x
      have HP := Lib.hid (hI.put x)
      have HKA := Lib.hid (show Keep wr ((wr.alloc (.cells (oc zeroO) 30)).setRow wr.heap.size (oc x)) from ((Keep.refl wr).alloc _).setRow _ _ (Nat.le_refl _))
      have hxs : (oc x).size = n4 := by rw [HN4.out]; rfl
      have hbo : b ≠ wr.heap.size := by have := HM.out.lt; omega
      have how : w.heap.size ≤ wr.heap.size := HK.out.size
      have HM3 := Lib.hid (HM.out.keep HKA.out)
      have HO3 := Lib.hid (HO.out.keep HKA.out)
      have HK3 := Lib.hid (HK.out.trans HKA.out)
      have hc3 := (hI.put x).c3
      have hc0 := (hI.put x).c0
      obtain ⟨X, hX⟩ : ∃ X, oc x = X := ⟨_, rfl⟩
      rw [hX] at d1 hst HP HKA hxs HM3 HO3 HK3 hc3 hc0
      clear hX hcl hx hI HM HO HKA
      generalize (wr.alloc (.cells (oc zeroO) 30)).setRow wr.heap.size X = w4 at *
      by_cases hS : 100 < x.s.length
      · go_wp2
        go_ret
        exact ⟨rfl, HK3.out⟩
      go_upto_block 2 with fail
      have HOB : Hid (OAt w4 wr.heap.size x) := HP
      generalize wr.heap.size = ob at *
      go_cut [7, 43] from 44 to 181 (fun v i wx => i = .int .i64 k ∧ ∃ l', l'.length = N ∧ M wx b l' ∧ OwnO w.heap.size wx v l' ∧ OAt wx ob x ∧ Keep w wx)
      case first =>
        have c1 := HOB.out.c1
        have c3 := HOB.out.c3
        have hm1 := x.hn.1
        have hm2 := x.hn.2
        by_cases hk1 : x.kind = 1
        · have hkb : (x.kind == 1) = true := by simp [hk1]
          have HSE := Lib.hid (set_at b l x.n _ HM3.out)
          obtain ⟨gw, cw, e, hgw, _⟩ := HO3.out.ptr (by rw [hlN]; omega)
          rw [hlN] at e
          subst e
          rcases setB_cases l x.n with ⟨hr, hs⟩ | ⟨hr, hs⟩ | ⟨j, hr, hj, hs⟩
          · have HLN := Lib.hid (setL_no l x.n hs)
            rw [hs] at HSE
            have q1 : decide (x.n ≥ 0) = false := decide_eq_false (by omega)
            clear hs hr
            go_wp2_with fail
            refine HSE.out.mono ?_
            rintro e w5 ⟨rfl, m5, o5⟩
            have HM5 := Lib.hid m5
            have HO5 := Lib.hid (Own.other HO3.out o5 HM3.out.block (by decide))
            have HX5 := Lib.hid (show OAt w5 ob x from o5.obj HOB.out (Ne.symm hbo))
            have HK5 := Lib.hid (o5.made HK3.out hbw)
            clear m5 o5
            go_wp2
            go_meet
            exact ⟨rfl, _, by rw [setL_len]; exact hlN, HM5.out, by rw [HLN.out]; exact HO5.out, HX5.out, HK5.out⟩
          · have HLN := Lib.hid (setL_no l x.n hs)
            rw [hs] at HSE
            rw [hlN] at hr
            have q1 : decide (x.n ≥ 0) = true := decide_eq_true (by omega)
            have q2 : decide (x.n < (N : Int)) = false := decide_eq_false (by omega)
            clear hs hr
            go_wp2_with fail
            refine HSE.out.mono ?_
            rintro e w5 ⟨rfl, m5, o5⟩
            have HM5 := Lib.hid m5
            have HO5 := Lib.hid (Own.other HO3.out o5 HM3.out.block (by decide))
            have HX5 := Lib.hid (show OAt w5 ob x from o5.obj HOB.out (Ne.symm hbo))
            have HK5 := Lib.hid (o5.made HK3.out hbw)
            clear m5 o5
            go_wp2
            go_meet
            exact ⟨rfl, _, by rw [setL_len]; exact hlN, HM5.out, by rw [HLN.out]; exact HO5.out, HX5.out, HK5.out⟩
          · have HXN := Lib.hid hr
            have hcw := HO3.out.boolAt hlN.symm j hj
            rw [hs] at HSE
            rw [hr] at HSE c1
            have HLN0 : setB l (j : Int) = false → setL l (j : Int) = l := setL_no l j
            have HLS := Lib.hid (show setL l (j : Int) = l.set j true by unfold setL; rw [if_pos (by omega), Int.toNat_natCast])
            have q1 : decide ((j : Int) ≥ 0) = true := decide_eq_true (by omega)
            have hjN : j < N := by omega
            have q2 : decide ((j : Int) < (N : Int)) = true := decide_eq_true (by omega)
            rw [hr] at hs
            cases hg : l.getD j false
            · rw [hg] at hcw HSE
              clear HLN0 hs hr
              skip
              go_wp2_with fail
              refine HSE.out.mono ?_
              rintro e w5 ⟨rfl, m5, o5⟩
              have HM5 := Lib.hid m5
              have ho5 := Own.other HO3.out o5 HM3.out.block (by decide)
              have HX5 := Lib.hid (show OAt w5 ob x from o5.obj HOB.out (Ne.symm hbo))
              have HK5 := Lib.hid (o5.made HK3.out hbw)
              have hcw := ho5.boolAt hlN.symm j hj
              rw [hg] at hcw
              have hfw := ho5.freeAt hlN.symm j
              have HP5 := Lib.hid (ho5.put hlN.symm j)
              have hbg := Own.ne ho5 HM5.out.block (by decide)
              have hog := Own.ne ho5 HX5.out (by decide)
              have hnc := HX5.out.c1
              rw [HXN.out] at hnc
              clear m5 o5 ho5
              go_wp2
              go_meet
              exact ⟨rfl, _, by rw [setL_len]; exact hlN, HM5.out.only (Only.setCell gw j _ _) hbg (by have := HT.out.pos; omega), by rw [HLS.out]; exact HP5.out, (Only.setCell gw j _ _).obj HX5.out hog, HK5.out.setCell _ _ _ hgw⟩
            · rw [hg] at hcw HSE
              have HLN := Lib.hid (HLN0 (by rw [hs, hg]; rfl))
              clear HLN0 hs hr hg
              skip
              go_wp2_with fail
              refine HSE.out.mono ?_
              rintro e w5 ⟨rfl, m5, o5⟩
              have HM5 := Lib.hid m5
              have HO5 := Lib.hid (Own.other HO3.out o5 HM3.out.block (by decide))
              have HX5 := Lib.hid (show OAt w5 ob x from o5.obj HOB.out (Ne.symm hbo))
              have HK5 := Lib.hid (o5.made HK3.out hbw)
              clear m5 o5
              go_wp2
              go_meet
              exact ⟨rfl, _, by rw [setL_len]; exact hlN, HM5.out, by rw [HLN.out]; exact HO5.out, HX5.out, HK5.out⟩
        have hkb : (x.kind == 1) = false := by simp [hk1]
        by_cases hk2 : x.kind = 2
        · have hkb2 : (x.kind == 2) = true := by simp [hk2]
          have HQ := Lib.hid (qmerge u7 l x.n x.s w4 (Own.row elO HO3.out).cells (by omega) hm1 hm2 (by omega))
          have HMG := Lib.hid (fun w1 (h : M w1 b l) => merge_at b l x.n x.s w1 h hm1 hm2 (by omega))
          have hnl := newN_le l x.n x.s
          have HML := Lib.hid (merL_len l x.n x.s)
          generalize merL l x.n x.s = l2 at *
          generalize newN l x.n x.s = nn at *
          go_wp2_with fail
          refine HQ.out.mono ?_
          rintro e w5 ⟨u, rfl, o5, k5⟩
          have HM5 := Lib.hid (HM3.out.keep k5)
          have HX5 := Lib.hid (HOB.out.keep k5)
          have HO5 := Lib.hid (Own.mono o5 HK3.out.size)
          have HK5 := Lib.hid (HK3.out.trans k5)
          have HMG5 := Lib.hid (HMG.out _ HM5.out)
          have c1 := HX5.out.c1
          have c3 := HX5.out.c3
          clear o5 k5
          go_wp2_with fail
          refine HMG5.out.mono ?_
          rintro e w6 ⟨rfl, m6, o6⟩
          have HM6 := Lib.hid m6
          have HO6 := Lib.hid (Own.other HO5.out o6 HM5.out.block (by decide))
          have HX6 := Lib.hid (show OAt w6 ob x from o6.obj HX5.out (Ne.symm hbo))
          have HK6 := Lib.hid (o6.made HK5.out hbw)
          clear m6 o6
          go_wp2
          go_meet
          exact ⟨rfl, l2, by rw [HML.out]; exact hlN, HM6.out, HO6.out, HX6.out, HK6.out⟩
        have hkb2 : (x.kind == 2) = false := by simp [hk2]
        go_wp2
        go_meet
        exact ⟨rfl, l, hlN, HM3.out, HO3.out, HOB.out, HK3.out⟩
      case rest =>
        obtain ⟨rfl, l', hlN', hM', hO', hX', hK'⟩ := hcut
        have HM' := Lib.hid hM'
        have HO' := Lib.hid hO'
        have HX' := Lib.hid hX'
        have HK' := Lib.hid hK'
        obtain ⟨gw, cw, e, hgw, _⟩ := hO'.ptr (by rw [hlN']; omega)
        rw [hlN'] at e
        subst e
        have hnr := x.hn
        have hmr := x.hm
        clear hM' hO' hX' hK' HM3 HO3 HK3 hlN HP HOB
        go_upto_region 24 with fail
        go_cut [13, 43] from 44 to 181 (fun h i wx => h = .bool (hasB l' x.n) ∧ i = .int .i64 k ∧ wx = wc)
        case first =>
          have c1 := HX'.out.c1
          by_cases h0 : 0 ≤ x.n
          · obtain ⟨j, hj⟩ := Int.eq_ofNat_of_zero_le h0
            rw [hj] at c1
            have q1 : decide ((j : Int) ≥ 0) = true := decide_eq_true (by omega)
            by_cases hjN : j < N
            · have q2 : decide ((j : Int) < (N : Int)) = true := decide_eq_true (by omega)
              have hcw := HO'.out.boolAt hlN'.symm j (by rw [hlN']; exact hjN)
              go_wp2
              go_meet
              exact ⟨by rw [hj, hasB_nat]; simp [show j < l'.length by omega], rfl, rfl⟩
            · have q2 : decide ((j : Int) < (N : Int)) = false := decide_eq_false (by omega)
              go_wp2
              go_meet
              exact ⟨by rw [hj, hasB_nat, getD_out l' j (by omega)], rfl, rfl⟩
          · have q1 : decide (x.n ≥ 0) = false := decide_eq_false (by omega)
            have hE : hasB l' x.n = false := by unfold hasB; rw [decide_eq_false h0]; rfl
            go_wp2
            go_meet
            exact ⟨by rw [hE], rfl, rfl⟩
        case rest =>
          obtain ⟨rfl, rfl, rfl⟩ := hcut
          have HHas : Hid (∀ w1, Keep wc w1 → Calls Tryd.prog 15 #[.pointer (some ⟨b, 0, none⟩), .int .i64 x.n] w1 fun e w' => e = .returned (.bool (hasB l' x.n)) ∧ Keep w1 w') := Lib.hid fun w1 q => by
            exact has_at b l' x.n w1 (HM'.out.keep q)
          have HBase : Hid (∀ w1, Keep wc w1 → Calls Tryd.prog 16 #[.pointer (some ⟨b, 0, none⟩)] w1 fun e w' => e = .returned (.int .i64 (baseN l' : Nat)) ∧ Keep w1 w') := Lib.hid fun w1 q => by
            refine (mbase_at b l' w1 (HM'.out.keep q)).mono ?_
            rintro e w2 ⟨rfl, rfl⟩
            exact ⟨rfl, Keep.refl _⟩
          have HCount : Hid (∀ w1, Keep wc w1 → Calls Tryd.prog 18 #[.pointer (some ⟨b, 0, none⟩)] w1 fun e w' => e = .returned (.int .i64 (cntN l' : Nat)) ∧ Keep w1 w') := Lib.hid fun w1 q => by
            refine (count_at b l' w1 (HM'.out.keep q)).mono ?_
            rintro e w2 ⟨rfl, rfl⟩
            exact ⟨rfl, Keep.refl _⟩
          have HFull : Hid (∀ w1, Keep wc w1 → Calls Tryd.prog 20 #[.pointer (some ⟨b, 0, none⟩)] w1 fun e w' => e = .returned (.bool (decide (baseN l' = l'.length))) ∧ Keep w1 w') := Lib.hid fun w1 q => by
            exact full_at b l' w1 (HM'.out.keep q)
          have HBeh : Hid (∀ w1, Keep wc w1 → Calls Tryd.prog 21 #[.pointer (some ⟨b, 0, none⟩), .int .i64 x.m] w1 fun e w' => e = .returned (.string ⟨(behB l' x.m).toArray⟩) ∧ Keep w1 w') := Lib.hid fun w1 q => by
            exact behind_at b l' x.m w1 (HM'.out.keep q)
          have HLen : Hid (∀ w1, Keep wc w1 → Calls Tryd.prog 26 #[.pointer (some ⟨b, 0, none⟩)] w1 fun e w' => e = .returned (.int .i64 (N : Nat)) ∧ Keep w1 w') := Lib.hid fun w1 q => by
            refine (len_at b l' w1 (HM'.out.keep q)).mono ?_
            rintro e w2 ⟨rfl, rfl⟩
            rw [hlN']
            exact ⟨rfl, Keep.refl _⟩
          have hcO : ∀ w1, Keep wc w1 → CelO w1 (.slice (some ⟨gw, 0, none⟩) N cw) l' := fun w1 q => (Own.row elO (HO'.out.keep q)).cells
          have HQB : Hid (∀ w1, Keep wc w1 → Calls Tryd.prog 17 #[.slice (some ⟨gw, 0, none⟩) N cw] w1 fun e w' => e = .returned (.int .i64 (baseN l' : Nat)) ∧ Keep w1 w') := Lib.hid fun w1 q => by
            refine (qbase _ l' w1 (hcO w1 q) (by omega)).mono ?_
            rintro e w2 ⟨rfl, rfl⟩
            exact ⟨rfl, Keep.refl _⟩
          have HQC : Hid (∀ w1, Keep wc w1 → Calls Tryd.prog 19 #[.slice (some ⟨gw, 0, none⟩) N cw] w1 fun e w' => e = .returned (.int .i64 (cntN l' : Nat)) ∧ Keep w1 w') := Lib.hid fun w1 q => by
            refine (qcount _ l' w1 (hcO w1 q) (by omega)).mono ?_
            rintro e w2 ⟨rfl, rfl⟩
            exact ⟨rfl, Keep.refl _⟩
          have HQBeh : Hid (∀ w1, Keep wc w1 → Calls Tryd.prog 22 #[.slice (some ⟨gw, 0, none⟩) N cw, .int .i64 x.m] w1 fun e w' => e = .returned (.string ⟨(behB l' x.m).toArray⟩) ∧ Keep w1 w') := Lib.hid fun w1 q => by
            exact qbehind _ l' x.m w1 (hcO w1 q) (by omega)
          have HMis : Hid (∀ w1, Keep wc w1 → Calls Tryd.prog 24 #[.pointer (some ⟨b, 0, none⟩), .int .i64 x.n, .int .i64 x.m] w1 fun e w' => ∃ v, e = .returned v ∧ OwnI w1.heap.size w' v (misL l' x.n x.m) ∧ Keep w1 w') := Lib.hid fun w1 q => missing_at b l' x.n x.m w1 (HM'.out.keep q) hnr.2
          have HQMis : Hid (∀ w1, Keep wc w1 → Calls Tryd.prog 25 #[.slice (some ⟨gw, 0, none⟩) N cw, .int .i64 x.n, .int .i64 x.m] w1 fun e w' => ∃ v, e = .returned v ∧ OwnI w1.heap.size w' v (misL l' x.n x.m) ∧ Keep w1 w') := Lib.hid fun w1 q => qmissing _ l' x.n x.m w1 (hcO w1 q) (by omega)
          have HC : Hid (∀ w1, Keep wc w1 → w1.cell? ⟨ob, 1, none⟩ = some (.int .i64 x.n) ∧ w1.cell? ⟨ob, 2, none⟩ = some (.int .i64 x.m)) := Lib.hid fun w1 q => ⟨(HX'.out.keep q).c1, (HX'.out.keep q).c2⟩
          have hmsl : (misL l' x.n x.m).length ≤ 1000000 := by
            have := misK_len l' x.n x.m l'.length
            unfold misL
            omega
          have hfull : (decide (baseN l' = l'.length) != ((cntN l' : Int) == (N : Int))) = false := by
            have h := cnt_full_iff l'
            rw [hlN'] at h ⊢
            have e : ((cntN l' : Int) == (N : Int)) = decide (cntN l' = N) := by rw [Bool.eq_iff_iff]; simp; omega
            rw [e]
            by_cases hb1 : baseN l' = N
            · rw [decide_eq_true hb1, decide_eq_true (h.1 hb1)]; rfl
            · rw [decide_eq_false hb1, decide_eq_false (fun h2 => hb1 (h.2 h2))]; rfl
          have hfull2 : (!(decide (baseN l' = l'.length) == ((cntN l' : Int) == (N : Int)))) = false := hfull
          generalize decide (baseN l' = l'.length) = F at *
          generalize misL l' x.n x.m = ms at *
          generalize behB l' x.m = st at *
          generalize baseN l' = B at *
          generalize cntN l' = C at *
          generalize hasB l' x.n = hb0 at *
          have e1 : (hb0 != hb0) = false := by cases hb0 <;> rfl
          have e2 : ((B : Int) != (B : Int)) = false := by simp
          have e3 : ((C : Int) != (C : Int)) = false := by simp
          have e4 : ((N : Int) != (N : Int)) = false := by simp
          have e5 : (st != st) = false := by simp
          have cn0 := HC.out wc.drew (Keep.refl wc).drew
          have cna := HC.out (wc.drewN 1) ((Keep.refl wc).drewN 1)
          clear hcO
          go_upto_region 25 with fail
          go_region_held3 (fun w' => w'.cell? ⟨ob, 1, none⟩ = some (.int .i64 x.n) ∧ w'.cell? ⟨ob, 2, none⟩ = some (.int .i64 x.m)) (first | exact HC.out _ k13 | exact HC.out _ k12 | exact HC.out _ k11 | exact HC.out _ k10 | exact HC.out _ k9 | exact HC.out _ k8 | exact HC.out _ k7 | exact HC.out _ k6 | exact HC.out _ k5 | exact HC.out _ k4 | exact HC.out _ k3 | exact HC.out _ k2 | exact HC.out _ k1 | exact HC.out _ (Keep.refl wc).drew | exact HC.out _ ((Keep.refl wc).drewN 1) | exact HC.out _ (Keep.refl wc)) (first | (go_at_call 18; refine (HCount.out _ k6).mono ?_; rintro e v7 ⟨rfl, q7⟩; have k7 : Keep wc v7 := Keep.trans k6 q7) | (go_at_call 15; refine (HHas.out _ (by first | exact (Keep.refl wc).drew | exact (Keep.refl wc).drewN 1 | exact Keep.refl wc)).mono ?_; rintro e v1 ⟨rfl, q1⟩; have k1 : Keep wc v1 := Keep.trans (by first | exact (Keep.refl wc).drew | exact (Keep.refl wc).drewN 1 | exact Keep.refl wc) q1) | (go_at_call 16; refine (HBase.out _ k1).mono ?_; rintro e v2 ⟨rfl, q2⟩; have k2 : Keep wc v2 := Keep.trans k1 q2) | (go_at_call 17; refine (HQB.out _ k2).mono ?_; rintro e v3 ⟨rfl, q3⟩; have k3 : Keep wc v3 := Keep.trans k2 q3) | (go_at_call 18; refine (HCount.out _ k3).mono ?_; rintro e v4 ⟨rfl, q4⟩; have k4 : Keep wc v4 := Keep.trans k3 q4) | (go_at_call 19; refine (HQC.out _ k4).mono ?_; rintro e v5 ⟨rfl, q5⟩; have k5 : Keep wc v5 := Keep.trans k4 q5) | (go_at_call 20; refine (HFull.out _ k5).mono ?_; rintro e v6 ⟨rfl, q6⟩; have k6 : Keep wc v6 := Keep.trans k5 q6) | (go_at_call 21; refine (HBeh.out _ k7).mono ?_; rintro e v8 ⟨rfl, q8⟩; have k8 : Keep wc v8 := Keep.trans k7 q8) | (go_at_call 22; refine (HQBeh.out _ k8).mono ?_; rintro e v9 ⟨rfl, q9⟩; have k9 : Keep wc v9 := Keep.trans k8 q9) | (go_at_call 24; refine (HMis.out _ k9).mono ?_; rintro e v10 ⟨va, rfl, oa, q10⟩; have k10 : Keep wc v10 := Keep.trans k9 q10) | (go_at_call 25; refine (HQMis.out _ k10).mono ?_; rintro e v11 ⟨vb, rfl, ob2, q11⟩; have k11 : Keep wc v11 := Keep.trans k10 q11) | (go_at_call 23; refine (qsame _ _ ms ms v11 ((Own.row elI oa).keep q11).cells (Own.row elI ob2).cells hmsl hmsl).mono ?_; rw [decide_eq_true rfl]; rintro e v12 ⟨rfl, q12⟩; have k12 : Keep wc v12 := Keep.trans k11 q12) | (go_at_call 26; refine (HLen.out _ k12).mono ?_; rintro e v13 ⟨rfl, q13⟩; have k13 : Keep wc v13 := Keep.trans k12 q13))
          have HK13 := Lib.hid k13
          clear k1 k2 k3 k4 k5 k6 k7 k8 k9 k10 k11 k12 k13
          go_wp2
          go_roundw
          case rel => exact ⟨k + 1, l', by go_num, by omega, hlN', HM'.out.keep HK13.out, HO'.out.keep HK13.out, HK'.out.trans HK13.out⟩
          case measure => simp [intOf]; omega
    · go_wp2
      go_ret
      exact ⟨rfl, HK.out⟩

open Go.ChangeShapes Go.WideShapes Go.ChangeAt
set_option maxRecDepth 100000 in
theorem lifted (os : Os) (started : os.Started) (H : Type) (enc : TypeId × Value → H) :
    ReturnsInHanded {} Tryd.checked os 3 .any (fun w args => (Rows.sackPlaysSpec.pre enc Tryd.prog Tryd.f3 [] false w args ∧ laidMetH Tryd.prog laid1 w) ∧ sizedMet enc Tryd.prog Tryd.f3 (OpenSpec.ofChange Rows.sackPlaysSpec) false w args)
      (Rows.sackPlaysSpec.post enc Tryd.prog Tryd.f3 false true false false) := by
  refine returnsInHanded_of_change_and (C := Tryd.checked) (X := fun w _ => laidMetH Tryd.prog laid1 w) (fun _ _ _ hh h => h.of_heap hh) own started (by kernel_rfl) Tryd.func3
    (ChangeSpec.witness_shaped (enc := enc) (C := Tryd.checked) (os := os) (X := fun w _ => laidMetH Tryd.prog laid1 w) false (World.doorLaid Tryd.prog 400 os) #[.int .i64 0, .slice none 0 0] 8 rfl (World.shaped_of_RefB (by kernel_rfl) (by kernel_rfl)) (by kernel_rfl) (by kernel_rfl) (by kernel_rfl) (door_met os _)) ?_
  intro W base args ds gs before hval0 hW _ _ hL _
  have hval : ∀ (j : Nat) t v, Tryd.f3.params[j]? = some t → args[j]? = some v → Value.okWide Tryd.prog W .any base t v := hval0
  have hW' := hW
  obtain ⟨p, q, hA0, hV, rfl, hfz, hnd⟩ := hW
  have hA : DataW.TrodAll enc Tryd.prog W 0 (fun _ => true) true Tryd.f3.params.toList args.toList ds p := hA0

  rw [Tryd.params3] at hA hval
  obtain ⟨v0, vs0, d0, ds0, p0, q0, hargs, rfl, rfl, h0, r0⟩ := trodAll_cons hA
  obtain ⟨v1, vs1, d1, ds1, p1, q1, rfl, rfl, rfl, h1, r1⟩ := trodAll_cons r0
  obtain ⟨rfl, rfl, rfl⟩ := trodAll_nil r1
  obtain rfl : args = #[v0, v1] := by cases args; simp_all
  obtain ⟨rfl, rfl⟩ := trodVars_none hV
  have k0 := h0
  have lt0 : ∀ x ∈ p0, x.block < W.heap.size := by obtain ⟨m, hm⟩ := k0; exact DataW.trod_lt m _ _ _ hm
  have k1 := h1
  have lt1 : ∀ x ∈ p1, x.block < W.heap.size := by obtain ⟨m, hm⟩ := k1; exact DataW.trod_lt m _ _ _ hm
  obtain ⟨a0, rfl, _, _, w0⟩ := open_int Tryd.underlying3 (hval 0 3 v0 rfl rfl) h0
  obtain ⟨a1, cap1, l1, rfl, f1⟩ := open_ops (hval 1 22 v1 rfl rfl) h1
  clear hA0 hval0
  refine (walk a0 a1 cap1 l1 W (bounds_i64 w0) f1 (of_laid hL)).mono fun e W' ⟨he, bel0⟩ => ?_
  subst he
  have bel : Below W.heap.size W W' := bel0
  exact ⟨_, rfl, _, _, _, [], _, [], hW', trodAll_mk1 (shut_bool Tryd.underlying4 _), (trodAll_cons_mk (Below.trod laidOut (by kernel_rfl) (of_decide_eq_true (by kernel_rfl)) k0 bel lt0) (trodAll_cons_mk (Below.trod laidOut (by kernel_rfl) (of_decide_eq_true (by kernel_rfl)) k1 bel lt1) trodAll_mk0)), rfl, bel.frame _, fun h => by cases h⟩

theorem over : Rows.sackPlaysRow.holds Tryd.pinned (OpenSpec.ofChange Rows.sackPlaysSpec) :=
  OpenClaim.holds_of_wide 3 Tryd.f3 rfl rfl rfl rfl rfl rfl rfl ⟨rfl, rfl, rfl, rfl, rfl⟩ rfl rfl rfl rfl rfl (by kernel_rfl) Tryd.func3 (by kernel_rfl)
    (of_decide_eq_true (by kernel_rfl)) (by unfold Func.isWrapper; first | (rw [if_pos (by decide +kernel)]; kernel_rfl) | (rw [if_neg (by decide +kernel)]; exact ⟨rfl, rfl⟩))
    (fun os started H enc _ => lifted os started H enc)
theorem card : Claim7.holds Tryd.pinned (.plain (OpenSpec.ofChange Rows.sackPlaysSpec)) Rows.sackPlaysCard :=
  Claim7.holds_tied_plain_at .later [] [.data] true (true, "99409968b706bc054abbf054ee1bf7ec98067583eb760e09000fa6ba98158752") false
    over (fun _ h => by cases h) (by kernel_rfl) (fun _ h => by cases h) sackPlays_row_tie rfl ⟨rfl, rfl⟩ (by kernel_rfl) rfl
    (fun f fn hf hfn => by
      obtain rfl : f = 3 := Option.some.inj ((show Tryd.prog.funcNamed Rows.sackPlaysRow.func = some 3 by kernel_rfl).symm.trans hf) |>.symm
      obtain rfl : fn = Tryd.f3 := (Option.some.inj (Tryd.func3.symm.trans hfn)).symm
      exact ⟨by kernel_rfl, fun j t ht => by
        rw [Tryd.params3] at ht
        have hm : t ∈ [3, 22] := by simpa using Array.mem_of_getElem? ht
        have hall : ([3, 22].all fun u => !Tryd.prog.wantsStandIn u) = true := by kernel_rfl
        exact (show Tryd.prog.wantsStandIn t = false by simpa using List.all_eq_true.1 hall t hm)⟩)
    (by kernel_rfl)
end Go.Proofs.YtbeppppipleaaaaDoor.LSackPlays

namespace Go.Proofs.YtbeppppipleaaaaDoor
theorem sackPlays_holds : Rows.SackPlaysCardSaid := LSackPlays.card
#print axioms sackPlays_holds
end Go.Proofs.YtbeppppipleaaaaDoor

