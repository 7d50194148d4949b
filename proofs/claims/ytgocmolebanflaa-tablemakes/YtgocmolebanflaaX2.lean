/- Proved: what table's New answers. Condition: the list is short enough for memory. -/
import Derived.Test.YtgocmolebanflaaX
import Derived.Test.YtgocmolebanflaaZ
namespace Go.Proofs.Ytgocmolebanflaa
open Go.RowKit

def newE (l : List Rt) : Int := if (∀ r ∈ l, rightR r) then (if (l.map (·.to)).Nodup then (if l.length ≤ 300 then 0 else 7) else 9) else 1

theorem sorted_of {l : List Rt} (h : l.Pairwise (fun a b => cmpP a.to b.to ≤ 0)) (hd : (l.map (·.to)).Nodup) : Sorted l := by
  have h2 : l.Pairwise (fun a b => a.to ≠ b.to) := List.pairwise_map.1 hd
  refine (List.pairwise_and_iff.2 ⟨h, h2⟩).imp ?_
  intro a b ⟨h3, h4⟩
  have : cmpP a.to b.to ≠ 0 := fun e => h4 ((cmp_zero a.ok b.ok).1 e)
  omega
theorem nodup_of {l : List Rt} (h : Sorted l) : (l.map (·.to)).Nodup := by
  refine List.pairwise_map.2 (h.imp ?_)
  intro a b h1 h2
  rw [(cmp_zero a.ok b.ok).2 h2] at h1
  omega
/-- In order, and no two beside each other to one prefix. -/
theorem nodup_near {l : List Rt} (h : l.Pairwise (fun a b => cmpP a.to b.to ≤ 0)) (hn : ∀ i x y, l[i]? = some x → l[i + 1]? = some y → x.to ≠ y.to) : (l.map (·.to)).Nodup := by
  induction l with
  | nil => simp
  | cons a l ih =>
    obtain ⟨h1, h2⟩ := List.pairwise_cons.1 h
    have ih' := ih h2 (fun i x y hx hy => hn (i + 1) x y (by simpa using hx) (by simpa using hy))
    rw [List.map_cons, List.nodup_cons]
    refine ⟨fun hm => ?_, ih'⟩
    obtain ⟨b, hb, he⟩ := List.mem_map.1 hm
    cases l with
    | nil => simp at hb
    | cons c l =>
      have hac : cmpP a.to c.to ≤ 0 := h1 c (by simp)
      have hne : a.to ≠ c.to := hn 0 a c rfl rfl
      rcases List.mem_cons.1 hb with rfl | hb
      · exact hne he.symm
      · have hcb : cmpP c.to b.to ≤ 0 := (List.pairwise_cons.1 h2).1 b hb
        rw [he, cmp_neg c.ok a.ok] at hcb
        exact hne ((cmp_zero a.ok c.ok).1 (by omega))
theorem sorted_unique {a b : List Rt} (ha : Sorted a) (hb : Sorted b) (hp : a.Perm b) : a = b := by
  induction a generalizing b with
  | nil => exact (List.nil_perm.1 hp).symm
  | cons x a ih =>
    cases b with
    | nil => exact List.perm_nil.1 hp
    | cons y b =>
      have hx : x ∈ y :: b := hp.mem_iff.1 (by simp)
      have hy : y ∈ x :: a := hp.mem_iff.2 (by simp)
      have e : x = y := by
        rcases List.mem_cons.1 hx with h | h
        · exact h
        · rcases List.mem_cons.1 hy with h2 | h2
          · exact h2.symm
          · have k1 := ha.head y h2
            have k2 := hb.head x h
            rw [cmp_neg y.ok x.ok] at k2
            omega
      subst e
      rw [ih ha.tail hb.tail (List.perm_cons x |>.1 hp)]

def NwRel (W : World) (l : List Rt) (i : Value) (wr : World) : Prop := ∃ k : Nat, i = .int .i64 k ∧ k ≤ l.length ∧ (∀ r ∈ l.take k, rightR r) ∧ Keep W wr
def Nw2Rel (W : World) (l : List Rt) (i : Value) (wr : World) : Prop := ∃ j : Nat, i = .int .i64 ((j : Int) + 1) ∧ j ≤ l.length ∧ (∀ k x y, k < j → l[k]? = some x → l[k + 1]? = some y → x.to ≠ y.to) ∧ Keep W wr
def NewPost (w : World) (l : List Rt) (e : Ending) (w' : World) : Prop :=
  ∃ p, e = .returned (.tuple #[p, .int .i64 (newE l)]) ∧ Keep w w' ∧ ((newE l ≠ 0 ∧ p = .pointer none) ∨ (newE l = 0 ∧ ∃ b l', p = .pointer (some ⟨b, 0, none⟩) ∧ w.heap.size ≤ b ∧ l'.Perm l ∧ Tb w' b l'))

set_option maxRecDepth 100000 in
set_option maxHeartbeats 2000000 in
theorem new (v : Value) (l : List Rt) (w : World) (h : Cells rl w v l) (hl : l.length ≤ 1000000) : Calls Try.prog 11 #[v] w (NewPost w l) := by
  obtain ⟨a, cap, rfl, hc1, hc2⟩ := h.form
  obtain ⟨hz, hi⟩ := zero_of_info info34b
  obtain ⟨n, hn⟩ : ∃ n, n = 20 := ⟨20, rfl⟩
  have hsz : ∀ w, (Go.sizeOf 34).run Try.prog w = .ok n w := fun w => by rw [hn]; exact Try.sizeOf34 w
  have hn0 : ¬ n = 0 := by omega
  obtain ⟨n2, hn2⟩ : ∃ n, n = 18 := ⟨18, rfl⟩
  have hsz2 : ∀ w, (Go.sizeOf 25).run Try.prog w = .ok n2 w := fun w => by rw [hn2]; exact Try.sizeOf25 w
  have hn20 : ¬ n2 = 0 := by omega
  have hzs : (rc zeroR).size = n := by rw [hn]; exact rc_size _
  have HN := Lib.hid hn
  have HN2 := Lib.hid hn2
  have H := Lib.hid h
  obtain ⟨L, hL⟩ : ∃ n, l.length = n := ⟨_, rfl⟩
  have HL := Lib.hid hL
  rw [hL] at H hc1 hl ⊢
  clear h hn hn2 hi hL
  go_enter Try.func11, Try.ntmps11
  go_wp2
  go_loopw [10] (fun i wr => NwRel w l i wr) (fun i _ => L - (intOf i).toNat)
  case atStart => exact ⟨0, rfl, Nat.zero_le _, by simp, Keep.refl _⟩
  case round =>
    obtain ⟨k, rfl, hk, hr, hkp⟩ := hrel
    rw [HL.out] at hk
    by_cases hlt : k < L
    · obtain ⟨g, o, cap', e, _, _, _⟩ := (show Cells rl w (.slice a l.length cap) l from by rw [HL.out]; exact H.out).ptr k (by rw [HL.out]; exact hlt)
      rw [HL.out] at e
      simp at e
      obtain ⟨rfl, rfl⟩ := e
      obtain ⟨x, hx⟩ : ∃ x, l[k]? = some x := ⟨_, List.getElem?_eq_getElem (by rw [HL.out]; exact hlt)⟩
      have hcl : Cells rl wr (.slice (some ⟨g, o, none⟩) l.length cap) l := by rw [HL.out]; exact H.out.keep hkp
      have d1 := (hcl.keep ((Keep.refl wr))).rt HN.out k x hx
      have hA := RAt.new wr zeroR
      have hst := hA.store x
      have hl3 := (hA.put x).whole HN.out
      have HRR := Lib.hid (rightT x).keep
      have HK3 := Lib.hid (show Keep w ((wr.alloc (.cells (rc zeroR) 34)).setRow wr.heap.size (rc x)) from (hkp.alloc _).setRow _ _ hkp.size)
      have hzx : (rc x).size = n := by rw [HN.out]; exact rc_size _
      have HX := Lib.hid hx
      have HR := Lib.hid hr
      clear hcl hA hx hr hkp
      by_cases hrx : rightR x
      · rw [decide_eq_true hrx] at HRR
        have HRX := Lib.hid hrx
        clear hrx
        generalize rc x = X at *
        generalize (wr.alloc (.cells (rc zeroR) 34)).setRow wr.heap.size X = w3 at *
        go_wp2_with fail
        refine (HRR.out _).mono ?_
        rintro e w4 ⟨rfl, b4⟩
        go_wp2
        go_roundw
        case rel => exact ⟨k + 1, by go_num, by rw [HL.out]; omega, fun r hr => by
          rw [List.take_add_one, HX.out] at hr
          rcases List.mem_append.1 hr with h | h
          · exact HR.out r h
          · simp at h; rw [h]; exact HRX.out, HK3.out.trans b4⟩
        case measure => simp [intOf]; omega
      · rw [decide_eq_false hrx] at HRR
        have HE : Hid (newE l = 1) := by
          show newE l = 1
          unfold newE
          rw [if_neg (fun h => hrx (h x (List.mem_of_getElem? HX.out)))]
        clear hrx
        generalize rc x = X at *
        generalize (wr.alloc (.cells (rc zeroR) 34)).setRow wr.heap.size X = w3 at *
        go_wp2_with fail
        refine (HRR.out _).mono ?_
        rintro e w4 ⟨rfl, b4⟩
        go_wp2
        go_ret2
        exact ⟨.pointer none, by rw [HE.out]; rfl, HK3.out.trans b4, .inl ⟨by rw [HE.out]; decide, rfl⟩⟩
    · have hall : ∀ r ∈ l, rightR r := fun r hm => hr r (by rw [List.take_of_length_le (by rw [HL.out]; omega)]; exact hm)
      have HALL := Lib.hid hall
      have HC := Lib.hid (clone _ l wr (show Cells rl wr (.slice a L cap) l from H.out.keep hkp) (by rw [HL.out]; exact hl))
      have HK := Lib.hid hkp
      clear hr hall hkp hz hzs
      go_wp2_with fail
      refine HC.out.mono ?_
      rintro e w1 ⟨v1, rfl, o1, b1⟩
      have HS := Lib.hid (sort_at v1 l wr.heap.size wr w1 o1 (by rw [HL.out]; exact hl) b1 (Nat.le_refl _))
      obtain ⟨a1, c1, e1, _, _⟩ := (o1.row elR).cells.form
      rw [HL.out] at e1
      subst e1
      clear o1 b1 HC
      go_wp2_with fail
      refine HS.out.mono ?_
      rintro e w2 ⟨rfl, l', hp, hs, hrow, hk2⟩
      have HP := Lib.hid hp
      have HSO := Lib.hid hs
      have HRW := Lib.hid hrow
      have HK2 := Lib.hid (HK.out.trans hk2)
      have HL' := Lib.hid (show l'.length = L from by rw [hp.length_eq, HL.out])
      clear hp hs hrow hk2 HS
      go_wp2
      go_loopw [7] (fun i wr => Nw2Rel w2 l' i wr) (fun i _ => L - (intOf i).toNat)
      case atStart => exact ⟨0, rfl, Nat.zero_le _, fun k x y hk => by omega, Keep.refl _⟩
      case round =>
        obtain ⟨j, rfl, hj, hd, hkp⟩ := hrel
        rw [HL'.out] at hj
        by_cases hlt : j + 1 < L
        · obtain ⟨g, o, cap', e, _, _, _⟩ := (show Cells rl w2 (.slice a1 l'.length c1) l' from by rw [HL'.out]; exact HRW.out.cells).ptr j (by rw [HL'.out]; omega)
          rw [HL'.out] at e
          simp at e
          obtain ⟨rfl, rfl⟩ := e
          obtain ⟨x, hx⟩ : ∃ x, l'[j]? = some x := ⟨_, List.getElem?_eq_getElem (by rw [HL'.out]; omega)⟩
          obtain ⟨y, hy⟩ : ∃ y, l'[j + 1]? = some y := ⟨_, List.getElem?_eq_getElem (by rw [HL'.out]; exact hlt)⟩
          have hcl : Cells rl w2 (.slice (some ⟨g, o, none⟩) l'.length c1) l' := by rw [HL'.out]; exact HRW.out.cells
          have d1 : ∀ u : KW wr, (loadCellsFrom ⟨g, o + j * n, none⟩ 0 n2 #[]).run Try.prog u.1 = .ok (pc x.to) u.1 := fun u => (hcl.keep (hkp.trans u.2)).to HN2.out HN.out j x hx
          have d2 : ∀ u : KW wr, (loadCellsFrom ⟨g, o + (j + 1) * n, none⟩ 0 n2 #[]).run Try.prog u.1 = .ok (pc y.to) u.1 := fun u => (hcl.keep (hkp.trans u.2)).to HN2.out HN.out (j + 1) y hy
          have heq : ∀ w, (Op.equalIn 10000 25 (.agg (pc x.to)) (.agg (pc y.to))).run Try.prog w = .ok (decide (x.to = y.to)) w := fun w => eq_pcd 9996 x.to y.to x.ok y.ok w
          have hltI : (j : Int) + 1 < L := by omega
          have hjL : j < L := by omega
          have HX := Lib.hid hx
          have HY := Lib.hid hy
          have HD := Lib.hid hd
          have HKP := Lib.hid hkp
          clear hcl hx hy hd hkp
          by_cases hxy : x.to = y.to
          · simp only [decide_eq_true hxy] at heq
            have HE : Hid (newE l = 9) := by
              show newE l = 9
              unfold newE
              rw [if_pos HALL.out, if_neg]
              intro hnd
              have hnd2 : (l'.map (·.to)).Nodup := (HP.out.map _).nodup_iff.2 hnd
              have hpw := List.pairwise_iff_getElem.1 (List.pairwise_map.1 hnd2)
              obtain ⟨h1, e1⟩ := List.getElem?_eq_some_iff.1 HX.out
              obtain ⟨h2, e2⟩ := List.getElem?_eq_some_iff.1 HY.out
              have := hpw j (j + 1) h1 h2 (by omega)
              rw [e1, e2] at this
              exact this hxy
            clear hxy
            generalize pc x.to = X at *
            generalize pc y.to = Y at *
            go_wp2_with fail
            refine wp_region_keep (Keep.refl _) (by kernel_rfl) (by kernel_rfl) ?_
            repeat (first | go_big_quiet_step (fail) | quiet_step (fail))
            refine wpQuiet_nil ?_
            rintro w6 ⟨⟨w7, b7⟩, rfl⟩
            have HK7 := Lib.hid ((HK2.out.trans HKP.out).trans b7)
            clear b7 d1 d2 heq HKP
            go_wp2
            go_ret2
            exact ⟨.pointer none, by rw [HE.out]; rfl, HK7.out, .inl ⟨by rw [HE.out]; decide, rfl⟩⟩
          · simp only [decide_eq_false hxy] at heq
            have HXY := Lib.hid hxy
            clear hxy
            generalize pc x.to = X at *
            generalize pc y.to = Y at *
            go_wp2_with fail
            refine wp_region_keep (Keep.refl _) (by kernel_rfl) (by kernel_rfl) ?_
            repeat (first | go_big_quiet_step (fail) | quiet_step (fail))
            refine wpQuiet_nil ?_
            rintro w6 ⟨⟨w7, b7⟩, rfl⟩
            have HK7 := Lib.hid (HKP.out.trans b7)
            clear b7 d1 d2 heq HKP
            go_wp2
            go_roundw
            case rel => exact ⟨j + 1, by go_num, by rw [HL'.out]; omega, fun k x' y' hk hx' hy' => by
              rcases Nat.lt_or_ge k j with h | h
              · exact HD.out k x' y' h hx' hy'
              · obtain rfl : k = j := by omega
                rw [HX.out] at hx'
                rw [HY.out] at hy'
                simp at hx' hy'
                rw [← hx', ← hy']
                exact HXY.out, HK7.out⟩
            case measure => simp [intOf]; omega
        · have hnd : (l'.map (·.to)).Nodup := nodup_near HSO.out (fun i x y hx hy => hd i x y (by
            have := (List.getElem?_eq_some_iff.1 hy).1
            rw [HL'.out] at this
            omega) hx hy)
          have HND := Lib.hid ((HP.out.map (·.to)).nodup_iff.1 hnd)
          have HSRT := Lib.hid (sorted_of HSO.out hnd)
          have HKP := Lib.hid hkp
          have hltI : ¬ ((j : Int) + 1 < L) := by omega
          clear hd hnd hkp
          by_cases hbig : L ≤ 300
          · have HE : Hid (newE l = 0) := by
              show newE l = 0
              unfold newE
              rw [if_pos HALL.out, if_pos HND.out, if_pos (by rw [HL.out]; exact hbig)]
            have hb2 : ¬ ((L : Int) > 300) := by omega
            have HT := Lib.hid (show Tb (wr.alloc (.cells #[.slice a1 L c1] 75)) wr.heap.size l' from ⟨⟨_, heap_alloc_last wr _, HRW.out.keep (HKP.out.alloc _)⟩, HSRT.out, by rw [HL'.out]; exact hbig⟩)
            have HK9 := Lib.hid (show Keep w (wr.alloc (.cells #[.slice a1 L c1] 75)) from (HK2.out.trans HKP.out).alloc _)
            have hge : w.heap.size ≤ wr.heap.size := (HK2.out.trans HKP.out).size
            clear HKP
            go_wp2
            go_ret2
            exact ⟨.pointer (some ⟨wr.heap.size, 0, none⟩), by rw [HE.out]; rfl, HK9.out, .inr ⟨HE.out, _, l', rfl, hge, HP.out, HT.out⟩⟩
          · have HE : Hid (newE l = 7) := by
              show newE l = 7
              unfold newE
              rw [if_pos HALL.out, if_pos HND.out, if_neg (by rw [HL.out]; exact hbig)]
            have hb2 : (L : Int) > 300 := by omega
            go_wp2
            go_ret2
            exact ⟨.pointer none, by rw [HE.out]; rfl, HK2.out.trans HKP.out, .inl ⟨by rw [HE.out]; decide, rfl⟩⟩
end Go.Proofs.Ytgocmolebanflaa
