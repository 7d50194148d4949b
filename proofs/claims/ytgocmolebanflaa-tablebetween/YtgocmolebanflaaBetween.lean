/- Proved: for every list of routes and every two prefixes the law TableBetween returns true (what stands between two prefixes, with what stands ahead and behind, is all; of a prefix and itself nothing stands between), and its arguments read behind the call as they read before. No condition. -/
import Derived.Test.YtgocmolebanflaaAx
import Derived.Test.YtgocmolebanflaaOp2
import Derived.ShutString
import Derived.ChangeOld
namespace Go.Proofs.Ytgocmolebanflaa.LTableBetween
open Go.RowKit

theorem new_0 : newE [] = 0 := by
  unfold newE
  rw [if_pos (by simp), if_pos (by simp), if_pos (by simp)]
def inB (p q : Px) (r : Rt) : Bool := decide (0 ≤ cmpP r.to p) && decide (cmpP r.to q < 0)
theorem rank_mono {l : List Rt} (hs : Sorted l) {p q : Px} (hp : L16 p) (hq : L16 q) (h : cmpP p q ≤ 0) : rank l p ≤ rank l q := by
  rcases Nat.lt_or_ge (rank l q) (rank l p) with h1 | h1
  · have hlt : rank l q < l.length := Nat.lt_of_lt_of_le h1 (rank_le l p)
    have hx : l[rank l q]? = some l[rank l q] := List.getElem?_eq_getElem hlt
    have k1 := (lt_rank hs hp _ _ hx).2 h1
    have k2 : ¬ cmpP (l[rank l q]).to q < 0 := fun h2 => by have := (lt_rank hs hq _ _ hx).1 h2; omega
    by_cases h0 : cmpP p q = 0
    · rw [(cmp_zero hp hq).1 h0] at k1
      exact absurd k1 k2
    · exact absurd (cmp_lt_trans (l[rank l q]).ok hp hq k1 (by omega)) k2
  · exact h1
theorem bet_filter {l : List Rt} (hs : Sorted l) {p q : Px} (hp : L16 p) (hq : L16 q) (h : cmpP p q ≤ 0) : betS l p q = l.filter (inB p q) := by
  have hm := rank_mono hs hp hq h
  have hd : l.drop (rank l q) = (l.drop (rank l p)).drop (rank l q - rank l p) := by rw [List.drop_drop]; congr 1; omega
  have e : l = l.take (rank l p) ++ (betS l p q ++ l.drop (rank l q)) := by
    unfold betS
    rw [hd, List.take_append_drop, List.take_append_drop]
  have f1 : (l.take (rank l p)).filter (inB p q) = [] := by
    rw [List.filter_eq_nil_iff]
    intro a ha
    have := take_rank hs hp a ha
    simp [inB]
    omega
  have f3 : (l.drop (rank l q)).filter (inB p q) = [] := by
    rw [List.filter_eq_nil_iff]
    intro a ha
    have := drop_rank hs hq a ha
    simp [inB]
    omega
  have f2 : (betS l p q).filter (inB p q) = betS l p q := by
    rw [List.filter_eq_self]
    intro a ha
    unfold betS at ha
    have k1 := drop_rank hs hp a (List.mem_of_mem_take ha)
    obtain ⟨j, hj, he⟩ := List.mem_iff_getElem.1 ha
    rw [List.length_take, List.length_drop] at hj
    rw [List.getElem_take, List.getElem_drop] at he
    have k2 := (lt_rank hs hq (rank l p + j) a (by rw [← he]; exact List.getElem?_eq_getElem _)).2 (by omega)
    simp [inB, k1, k2]
  conv => rhs; rw [e]
  rw [List.filter_append, List.filter_append, f1, f2, f3, List.nil_append, List.append_nil]
theorem bet_same (l : List Rt) (p : Px) : betS l p p = [] := by simp [betS]
theorem bet_back {l : List Rt} (hs : Sorted l) {p q : Px} (hp : L16 p) (hq : L16 q) (h : cmpP p q ≤ 0) : betS l q p = [] := by
  have := rank_mono hs hp hq h
  simp only [betS]
  rw [show rank l p - rank l q = 0 by omega, List.take_zero]
/-- The next one that stands between. -/
theorem next_in {m : List Rt} {f : Rt → Bool} {k : Nat} {x : Rt} (hx : m[k]? = some x) (hf : f x = true) : (m.filter f)[((m.take k).filter f).length]? = some x := by
  have e : m = m.take k ++ x :: m.drop (k + 1) := by
    conv => lhs; rw [← List.take_append_drop k m]
    rw [drop_cons' hx]
  conv => lhs; rw [e]
  rw [List.filter_append, List.filter_cons, if_pos hf, List.getElem?_append_right]
  · simp only [← e]
    simp
  · simp only [← e]
    exact Nat.le_refl _
theorem take_in {m : List Rt} {f : Rt → Bool} {k : Nat} {x : Rt} (hx : m[k]? = some x) : (m.take (k + 1)).filter f = (m.take k).filter f ++ (if f x then [x] else []) := by
  rw [List.take_add_one, hx, List.filter_append]
  cases h : f x <;> simp [h]

theorem Only.setRow (b : Nat) (w : World) (c : Array Value) : Only b w (w.setRow b c) :=
  ⟨rfl, rfl, rfl, by simp [World.setRow], fun k _ hb => by
    simp only [World.setRow, Array.getElem?_modify]
    rw [if_neg (Ne.symm hb)]⟩
theorem Tb.other {w w' : World} {b g : Nat} {m : List Rt} {c : Array Value} {t : TypeId} {fz : Nat × Nat} (h : Tb w b m) (k : Only g w w') (hg : w.heap[g]? = some (.cells c t fz)) (ht : 34 ≠ t) (hb : b ≠ g) : Tb w' b m := by
  obtain ⟨⟨v, h1, h2⟩, h3, h4⟩ := h
  exact ⟨⟨v, k.obj h1 hb, h2.only k hg ht⟩, h3, h4⟩
def B1 (w : World) (b : Nat) (p q : Px) (N : Nat) (i : Value) (wr : World) : Prop := ∃ (k : Nat) (m : List Rt), i = .int .i64 k ∧ k ≤ N ∧ Tb wr b m ∧ At wr w.heap.size p ∧ At wr (w.heap.size + 1) q ∧ Keep w wr
def B2 (w W : World) (b : Nat) (p q : Px) (m : List Rt) (n i : Value) (wr : World) : Prop := ∃ k : Nat, i = .int .i64 k ∧ k ≤ m.length ∧ n = .int .i64 (((m.take k).filter (inB p q)).length : Nat) ∧ Keep W wr

set_option maxRecDepth 100000 in
set_option maxHeartbeats 4000000 in
theorem walk (a : Option Addr) (cap : Nat) (l : List Rt) (p q : Px) (w : World) (hA : ArgL rl w a cap l) (hp : p.addr.length = 16) (hq : q.addr.length = 16) : Calls Try.prog 9 #[.slice a l.length cap, .agg (pc p), .agg (pc q)] w fun e w' => e = .returned (.bool true) ∧ Below w.heap.size w w' := by
  obtain ⟨hP, hQ, hS⟩ := two_at w p q hp hq
  have hsm := hA.small
  unfold maxLen at hsm
  have HAR := Lib.hid hA
  have HP := Lib.hid hP
  have HQ := Lib.hid hQ
  have HS := Lib.hid hS.keep
  clear hA hP hQ hS
  obtain ⟨L, hL⟩ : ∃ n, l.length = n := ⟨_, rfl⟩
  have HL := Lib.hid hL
  rw [hL] at hsm ⊢
  clear hL
  by_cases hbig : 200 < L
  · have hbI : (L : Int) > 200 := by omega
    go_enter Try.func9, Try.ntmps9
    go_wp2_with fail
    refine (awake _).mono ?_
    rintro e w1 ⟨rfl, b1⟩
    go_wp2_with fail
    refine (awake _).mono ?_
    rintro e w2 ⟨rfl, b2⟩
    go_wp2
    go_ret
    exact ⟨rfl, HS.out.trans (b1.trans b2)⟩
  · have hbI : ¬ ((L : Int) > 200) := by omega
    obtain ⟨hz34, _⟩ := zero_of_info info34b
    obtain ⟨n, hn⟩ : ∃ n, n = 20 := ⟨20, rfl⟩
    have hsz : ∀ w, (Go.sizeOf 34).run Try.prog w = .ok n w := fun w => by rw [hn]; exact Try.sizeOf34 w
    have hn0 : ¬ n = 0 := by omega
    obtain ⟨n2, hn2⟩ : ∃ n, n = 18 := ⟨18, rfl⟩
    have hsz2 : ∀ w, (Go.sizeOf 25).run Try.prog w = .ok n2 w := fun w => by rw [hn2]; exact Try.sizeOf25 w
    have hn20 : ¬ n2 = 0 := by omega
    have hzs : (rc zeroR).size = n := by rw [hn]; exact rc_size _
    have HN := Lib.hid hn
    have HN2 := Lib.hid hn2
    clear hn hn2
    go_enter Try.func9, Try.ntmps9
    go_wp2_with fail
    refine (awake _).mono ?_
    rintro e w1 ⟨rfl, b1⟩
    go_wp2_with fail
    refine (new_of _ [] [] w1 (Cells.nil w1) (by simp) new_0 Sorted.nil (List.Perm.refl _)).mono ?_
    rintro e w2 ⟨b, rfl, hb, tb, b2⟩
    have HT2 := Lib.hid tb
    have HK2 := Lib.hid (HS.out.trans (b1.trans b2))
    have HP2 := Lib.hid (show At w2 w.heap.size p from ⟨(b1.trans b2).obj HP.out.block, hp⟩)
    have HQ2 := Lib.hid (show At w2 (w.heap.size + 1) q from ⟨(b1.trans b2).obj HQ.out.block, hq⟩)
    have hbw : w.heap.size + 1 < b := by
      have := block_lt (b1.obj HQ.out.block)
      omega
    clear tb b1 b2 hb HP HQ HS
    go_wp2
    go_loopw [29] (fun i wr => B1 w b p q L i wr) (fun i _ => L - (intOf i).toNat)
    case atStart => exact ⟨0, [], rfl, Nat.zero_le _, HT2.out, HP2.out, HQ2.out, HK2.out⟩
    case round =>
      clear HT2 HP2 HQ2 HK2
      obtain ⟨k, m, rfl, hk, tb, pa, qa, hkp⟩ := hrel
      by_cases hlt : k < L
      · have hne : l ≠ [] := fun e => by have := HL.out; rw [e] at this; simp at this; omega
        have hcl := (HAR.out.keep hkp).cells hne
        obtain ⟨g, o, cap', e, _, _, _⟩ := hcl.ptr k (by rw [HL.out]; exact hlt)
        simp at e
        obtain ⟨rfl, rfl⟩ := e
        obtain ⟨x, hx⟩ : ∃ x, l[k]? = some x := ⟨_, List.getElem?_eq_getElem (by rw [HL.out]; exact hlt)⟩
        have d1 := hcl.rt HN.out k x hx
        have hI := RAt.new wr zeroR
        have hst := hI.store x
        have hl3 := (hI.put x).whole HN.out
        have hzx : (rc x).size = n := by rw [HN.out]; exact rc_size _
        have HKA := Lib.hid (show Keep wr ((wr.alloc (.cells (rc zeroR) 34)).setRow wr.heap.size (rc x)) from ((Keep.refl wr).alloc _).setRow _ _ (Nat.le_refl _))
        have HTB := Lib.hid (tb.keep HKA.out)
        have HPA := Lib.hid (show At _ w.heap.size p from ⟨HKA.out.obj pa.block, hp⟩)
        have HQA := Lib.hid (show At _ (w.heap.size + 1) q from ⟨HKA.out.obj qa.block, hq⟩)
        have HKK := Lib.hid (hkp.trans HKA.out)
        have HPU := Lib.hid (put b m x _ HTB.out)
        clear hcl hI hx tb pa qa hkp HKA
        generalize rc x = X at *
        generalize (wr.alloc (.cells (rc zeroR) 34)).setRow wr.heap.size X = w3 at *
        go_wp2_with fail
        refine HPU.out.mono ?_
        rintro e w4 ⟨rfl, t4, o4⟩
        have HPA4 := Lib.hid (show At w4 w.heap.size p from ⟨o4.obj HPA.out.block (by omega), hp⟩)
        have HQA4 := Lib.hid (show At w4 (w.heap.size + 1) q from ⟨o4.obj HQA.out.block (by omega), hq⟩)
        have HKK4 := Lib.hid (o4.made HKK.out (by omega))
        have HT4 := Lib.hid t4
        clear o4 t4 d1 hst hl3 hzx
        go_wp2
        go_roundw
        case rel => exact ⟨k + 1, _, by go_num, by omega, HT4.out, HPA4.out, HQA4.out, HKK4.out⟩
        case measure => simp [intOf]; omega
      · have HTB := Lib.hid tb
        have HPA := Lib.hid pa
        have HQA := Lib.hid qa
        have HKK := Lib.hid hkp
        have l1 := pa.whole HN2.out
        have l2 := qa.whole HN2.out
        have HC := Lib.hid (qcompare p q hp hq).keep
        clear tb pa qa hkp
        by_cases hsw : cmpP p q > 0
        · have hle : cmpP q p ≤ 0 := by rw [cmp_neg hq hp]; omega
          have HLE := Lib.hid hle
          clear hle
          generalize cmpP p q = z at *
          go_wp2_with fail
          refine (HC.out _).mono ?_
          rintro e w5 ⟨rfl, b5⟩
          have hP5 : At w5 w.heap.size p := ⟨b5.obj HPA.out.block, hp⟩
          have hQ5 : At w5 (w.heap.size + 1) q := ⟨b5.obj HQA.out.block, hq⟩
          have l3 := hQ5.whole HN2.out
          have l4 := hP5.whole HN2.out
          have s1 := hP5.store q hq
          have hQ6 : At (w5.setRow w.heap.size (pc q)) (w.heap.size + 1) q := ⟨setRow_old hQ5.block _ _ (by omega), hq⟩
          have s2 := hQ6.store p hp
          have hzp : (pc p).size = n2 := by rw [HN2.out]; exact pc_size p hp
          have hzq : (pc q).size = n2 := by rw [HN2.out]; exact pc_size q hq
          have hP7 : At ((w5.setRow w.heap.size (pc q)).setRow (w.heap.size + 1) (pc p)) w.heap.size q := ⟨setRow_old (hP5.put q hq).block _ _ (by omega), hq⟩
          have hQ7 := hQ6.put p hp
          have PA := Lib.hid hP7
          have PB := Lib.hid hQ7
          have TBL := Lib.hid (Tb.other (Tb.other (HTB.out.keep b5) (Only.setRow w.heap.size w5 (pc q)) hP5.block (by decide) (by omega)) (Only.setRow (w.heap.size + 1) _ (pc p)) hQ6.block (by decide) (by omega))
          have KWW := Lib.hid (((HKK.out.trans b5).setRow w.heap.size (pc q) (Nat.le_refl _)).setRow (w.heap.size + 1) (pc p) (by omega))
          have l5 := hP7.whole HN2.out
          have l6 := hQ7.whole HN2.out
          clear l1 l2 b5 hP5 hQ5 hQ6 hP7 hQ7 HTB HPA HQA HKK
          go_wp2_with fail
          generalize (w5.setRow w.heap.size (pc q)).setRow (w.heap.size + 1) (pc p) = w6 at *
          refine (between _ _ q p hq hp w6 (Tp.of TBL.out)).mono ?_
          rintro e w7 ⟨v7, rfl, r7, b7⟩
          have hAA := Lib.hid hq
          have hBB := Lib.hid hp
          clear s1 s2 l3 l4 l5 l6 hzp hzq HC hp hq hsw
          generalize q = A at *
          generalize p = B at *
          have HBF := Lib.hid (bet_filter TBL.out.sorted hAA.out hBB.out HLE.out)
          have HR7 := Lib.hid r7
          obtain ⟨a7, c7, e7, _, _⟩ := r7.cells.form
          obtain ⟨N7, hN7⟩ : ∃ n, (betS m A B).length = n := ⟨_, rfl⟩
          have HN7 := Lib.hid hN7
          rw [hN7] at e7
          clear hN7 r7
          subst e7
          have HT7 := Lib.hid (TBL.out.keep b7)
          have PA7 := Lib.hid (show At w7 w.heap.size A from ⟨b7.obj PA.out.block, hAA.out⟩)
          have PB7 := Lib.hid (show At w7 (w.heap.size + 1) B from ⟨b7.obj PB.out.block, hBB.out⟩)
          have KW7 := Lib.hid (KWW.out.trans b7)
          clear b7 TBL PA PB KWW
          have HFEW := Lib.hid HT7.out.few
          go_wp2_with fail
          refine (all _ _ w7 (Tp.of HT7.out)).mono ?_
          rintro e w8 ⟨v8, rfl, o8, b8⟩
          have HR8 := Lib.hid (o8.row elR)
          obtain ⟨a8, c8, e8, _, _⟩ := (o8.row elR).cells.form
          obtain ⟨M, hM⟩ : ∃ n, m.length = n := ⟨_, rfl⟩
          have HM := Lib.hid hM
          rw [hM] at e8 HFEW
          clear hM o8
          subst e8
          have HL8 := Lib.hid (HR7.out.keep b8)
          have HT8 := Lib.hid (HT7.out.keep b8)
          have PA8 := Lib.hid (show At w8 w.heap.size A from ⟨b8.obj PA7.out.block, hAA.out⟩)
          have PB8 := Lib.hid (show At w8 (w.heap.size + 1) B from ⟨b8.obj PB7.out.block, hBB.out⟩)
          have KW8 := Lib.hid (KW7.out.trans b8)
          have hM300 : M ≤ 300 := HFEW.out
          clear b8 HT7 PA7 PB7 KW7 HR7
          go_wp2
          go_loopw [12, 50] (fun n i wr => B2 w w8 b A B m n i wr) (fun _ i _ => M - (intOf i).toNat)
          case atStart => exact ⟨0, rfl, Nat.zero_le _, by simp, Keep.refl _⟩
          case round =>
            obtain ⟨k, rfl, hk, rfl, hkp⟩ := hrel
            rw [HM.out] at hk
            by_cases hlt : k < M
            · obtain ⟨g, o, cap', e, _, _, _⟩ := (show Cells rl w8 (.slice a8 m.length c8) m from by rw [HM.out]; exact HR8.out.cells).ptr k (by rw [HM.out]; exact hlt)
              rw [HM.out] at e
              simp at e
              obtain ⟨rfl, rfl⟩ := e
              obtain ⟨x, hx⟩ : ∃ x, m[k]? = some x := ⟨_, List.getElem?_eq_getElem (by rw [HM.out]; exact hlt)⟩
              have d1 := (show Cells rl wr (.slice (some ⟨g, o, none⟩) m.length c8) m from by rw [HM.out]; exact HR8.out.cells.keep hkp).rt HN.out k x hx
              have hI := RAt.new wr zeroR
              have hst := hI.store x
              have HX3 := Lib.hid (hI.put x)
              have hzx : (rc x).size = n := by rw [HN.out]; exact rc_size _
              have HKA := Lib.hid (show Keep w8 ((wr.alloc (.cells (rc zeroR) 34)).setRow wr.heap.size (rc x)) from hkp.trans (((Keep.refl wr).alloc _).setRow _ _ (Nat.le_refl _)))
              have lto := HX3.out.to HN2.out
              have la := (show At _ w.heap.size A from ⟨HKA.out.obj PA8.out.block, hAA.out⟩).whole HN2.out
              have HC1 := Lib.hid (qcompare x.to A x.ok hAA.out).keep
              have HC2 := Lib.hid (qcompare x.to B x.ok hBB.out).keep
              have HTI := Lib.hid (take_in (f := inB A B) hx)
              have HX := Lib.hid hx
              have HIN : Hid (inB A B x = (decide (0 ≤ cmpP x.to A) && decide (cmpP x.to B < 0))) := rfl
              clear hI hkp hx
              obtain ⟨z1, hz1⟩ : ∃ z, cmpP x.to A = z := ⟨_, rfl⟩
              obtain ⟨z2, hz2⟩ : ∃ z, cmpP x.to B = z := ⟨_, rfl⟩
              rw [hz1] at HC1 HIN
              rw [hz2] at HC2 HIN
              clear hz1 hz2
              obtain ⟨XX, hXX⟩ : ∃ X, rc x = X := ⟨_, rfl⟩
              have HXX := Lib.hid hXX
              rw [hXX] at d1 hst HX3 hzx HKA lto la
              clear hXX
              have hcl : ((m.take k).filter (inB A B)).length ≤ M := by
                have := List.length_filter_le (inB A B) (m.take k)
                rw [List.length_take] at this
                omega
              obtain ⟨cnt, hcnt⟩ : ∃ c, ((m.take k).filter (inB A B)).length = c := ⟨_, rfl⟩
              rw [hcnt] at hcl ⊢
              have HCNT := Lib.hid hcnt
              clear hcnt
              by_cases h1 : z1 ≥ 0
              · by_cases h2 : z2 < 0
                · have HIT := Lib.hid (show inB A B x = true from by rw [HIN.out, decide_eq_true (show 0 ≤ z1 by omega), decide_eq_true h2]; rfl)
                  have HNX := Lib.hid (next_in HX.out HIT.out)
                  rw [HCNT.out, ← HBF.out] at HNX
                  have hcN : cnt < N7 := by rw [← HN7.out]; exact (List.getElem?_eq_some_iff.1 HNX.out).1
                  have hcNI : ¬ ((cnt : Int) ≥ N7) := by omega
                  generalize (wr.alloc (.cells (rc zeroR) 34)).setRow wr.heap.size XX = w9 at *
                  go_wp2_with fail
                  refine (HC1.out _).mono ?_
                  rintro e w10 ⟨rfl, b10⟩
                  have lto2 := (show RAt w10 wr.heap.size x from HX3.out.keep b10).to HN2.out
                  have lb := (show At w10 (w.heap.size + 1) B from ⟨(HKA.out.trans b10).obj PB8.out.block, hBB.out⟩).whole HN2.out
                  clear d1 hst lto la hzx
                  go_wp2_with fail
                  refine (HC2.out _).mono ?_
                  rintro e w11 ⟨rfl, b11⟩
                  have HK11 := Lib.hid (HKA.out.trans (b10.trans b11))
                  obtain ⟨g7, o7, cap7, e7, _, _, _⟩ := (show Cells rl w8 (.slice a7 (betS m A B).length c7) (betS m A B) from by rw [HN7.out]; exact HL8.out.cells).ptr cnt (by rw [HN7.out]; exact hcN)
                  rw [HN7.out] at e7
                  simp at e7
                  obtain ⟨rfl, rfl⟩ := e7
                  have q1 : ∀ u : KW w11, (loadCellsFrom ⟨g7, o7 + cnt * n, none⟩ 0 n #[]).run Try.prog u.1 = .ok XX u.1 := fun u => by
                    rw [← HXX.out]
                    exact (show Cells rl u.1 (.slice (some ⟨g7, o7, none⟩) (betS m A B).length c7) (betS m A B) from by rw [HN7.out]; exact HL8.out.cells.keep (HK11.out.trans u.2)).rt HN.out cnt x HNX.out
                  have q2 : ∀ u : KW w11, (loadCellsFrom ⟨wr.heap.size, 0, none⟩ 0 n #[]).run Try.prog u.1 = .ok XX u.1 := fun u => by
                    rw [← HXX.out]
                    exact (show RAt u.1 wr.heap.size x from (HX3.out.keep (b10.trans b11)).keep u.2).whole HN.out
                  have heq : ∀ w, (Op.equalIn 10000 34 (.agg XX) (.agg XX)).run Try.prog w = .ok true w := fun w => by
                    rw [← HXX.out, show (true : Bool) = decide (x = x) by simp]
                    exact eq_rc 9995 x x w
                  clear lto2 lb b10 b11
                  go_wp2_with fail
                  refine wp_region_keep (Keep.refl _) (by kernel_rfl) (by kernel_rfl) ?_
                  repeat (first | go_big_quiet_step (fail) | quiet_step (fail))
                  refine wpQuiet_nil ?_
                  rintro w12 ⟨⟨w13, b13⟩, rfl⟩
                  have HK13 := Lib.hid (HK11.out.trans b13)
                  clear b13 q1 q2 heq
                  go_wp2
                  go_roundw
                  case rel => exact ⟨k + 1, by go_num, by rw [HM.out]; omega, by rw [HTI.out, if_pos HIT.out, List.length_append, HCNT.out]; simp, HK13.out⟩
                  case measure => simp [intOf]; omega
                · have HIT := Lib.hid (show inB A B x = false from by rw [HIN.out, decide_eq_false h2]; simp)
                  generalize (wr.alloc (.cells (rc zeroR) 34)).setRow wr.heap.size XX = w9 at *
                  go_wp2_with fail
                  refine (HC1.out _).mono ?_
                  rintro e w10 ⟨rfl, b10⟩
                  have lto2 := (show RAt w10 wr.heap.size x from HX3.out.keep b10).to HN2.out
                  have lb := (show At w10 (w.heap.size + 1) B from ⟨(HKA.out.trans b10).obj PB8.out.block, hBB.out⟩).whole HN2.out
                  clear d1 hst lto la hzx
                  go_wp2_with fail
                  refine (HC2.out _).mono ?_
                  rintro e w11 ⟨rfl, b11⟩
                  have HK11 := Lib.hid (HKA.out.trans (b10.trans b11))
                  clear lto2 lb b10 b11
                  go_wp2
                  go_roundw
                  case rel => exact ⟨k + 1, by go_num, by rw [HM.out]; omega, by rw [HTI.out, HIT.out]; simp [HCNT.out], HK11.out⟩
                  case measure => simp [intOf]; omega
              · have HIT := Lib.hid (show inB A B x = false from by rw [HIN.out, decide_eq_false (show ¬ 0 ≤ z1 by omega)]; rfl)
                generalize (wr.alloc (.cells (rc zeroR) 34)).setRow wr.heap.size XX = w9 at *
                go_wp2_with fail
                refine (HC1.out _).mono ?_
                rintro e w10 ⟨rfl, b10⟩
                have HK10 := Lib.hid (HKA.out.trans b10)
                clear d1 hst lto la hzx b10
                go_wp2
                go_roundw
                case rel => exact ⟨k + 1, by go_num, by rw [HM.out]; omega, by rw [HTI.out, HIT.out]; simp [HCNT.out], HK10.out⟩
                case measure => simp [intOf]; omega
            · have hcnt : ((m.take k).filter (inB A B)).length = N7 := by
                rw [List.take_of_length_le (by rw [HM.out]; omega), ← HBF.out, HN7.out]
              rw [hcnt]
              have la := (show At wr w.heap.size A from ⟨hkp.obj PA8.out.block, hAA.out⟩).whole HN2.out
              have HB1 := Lib.hid (between _ _ A A hAA.out hAA.out wr (Tp.of (HT8.out.keep hkp)))
              rw [bet_same] at HB1
              have HKR := Lib.hid hkp
              have hnn : ((N7 : Int) == N7) = true := by simp
              clear hcnt hkp
              go_wp2_with fail
              refine HB1.out.mono ?_
              rintro e w10 ⟨v10, rfl, r10, b10⟩
              obtain ⟨a10, c10, e10, _, _⟩ := r10.cells.form
              subst e10
              have HK10 := Lib.hid (HKR.out.trans b10)
              have la2 := (show At w10 w.heap.size A from ⟨HK10.out.obj PA8.out.block, hAA.out⟩).whole HN2.out
              have lb2 := (show At w10 (w.heap.size + 1) B from ⟨HK10.out.obj PB8.out.block, hBB.out⟩).whole HN2.out
              have HB2 := Lib.hid (between _ _ B A hBB.out hAA.out w10 (Tp.of (HT8.out.keep HK10.out)))
              rw [bet_back HT8.out.sorted hAA.out hBB.out HLE.out] at HB2
              clear la r10 b10 HB1 HKR
              go_wp2_with fail
              refine HB2.out.mono ?_
              rintro e w11 ⟨v11, rfl, r11, b11⟩
              obtain ⟨a11, c11, e11, _, _⟩ := r11.cells.form
              subst e11
              have HKF := Lib.hid (KW8.out.trans (HK10.out.trans b11))
              clear la2 lb2 r11 b11
              go_wp2
              go_ret
              exact ⟨rfl, HKF.out⟩
        · have HLE : Hid (cmpP p q ≤ 0) := show cmpP p q ≤ 0 by omega
          obtain ⟨z, hz⟩ : ∃ z, cmpP p q = z := ⟨_, rfl⟩
          rw [hz] at HC hsw
          clear hz
          go_wp2_with fail
          refine (HC.out _).mono ?_
          rintro e w6 ⟨rfl, b5⟩
          have PA := Lib.hid (show At w6 w.heap.size p from ⟨b5.obj HPA.out.block, hp⟩)
          have PB := Lib.hid (show At w6 (w.heap.size + 1) q from ⟨b5.obj HQA.out.block, hq⟩)
          have l5 := PA.out.whole HN2.out
          have l6 := PB.out.whole HN2.out
          have TBL := Lib.hid (HTB.out.keep b5)
          have KWW := Lib.hid (HKK.out.trans b5)
          clear l1 l2 b5 HTB HPA HQA HKK
          go_wp2_with fail
          refine (between _ _ p q hp hq w6 (Tp.of TBL.out)).mono ?_
          rintro e w7 ⟨v7, rfl, r7, b7⟩
          have hAA := Lib.hid hp
          have hBB := Lib.hid hq
          clear l5 l6 HC hp hq hsw
          generalize p = A at *
          generalize q = B at *
          have HBF := Lib.hid (bet_filter TBL.out.sorted hAA.out hBB.out HLE.out)
          have HR7 := Lib.hid r7
          obtain ⟨a7, c7, e7, _, _⟩ := r7.cells.form
          obtain ⟨N7, hN7⟩ : ∃ n, (betS m A B).length = n := ⟨_, rfl⟩
          have HN7 := Lib.hid hN7
          rw [hN7] at e7
          clear hN7 r7
          subst e7
          have HT7 := Lib.hid (TBL.out.keep b7)
          have PA7 := Lib.hid (show At w7 w.heap.size A from ⟨b7.obj PA.out.block, hAA.out⟩)
          have PB7 := Lib.hid (show At w7 (w.heap.size + 1) B from ⟨b7.obj PB.out.block, hBB.out⟩)
          have KW7 := Lib.hid (KWW.out.trans b7)
          clear b7 TBL PA PB KWW
          have HFEW := Lib.hid HT7.out.few
          go_wp2_with fail
          refine (all _ _ w7 (Tp.of HT7.out)).mono ?_
          rintro e w8 ⟨v8, rfl, o8, b8⟩
          have HR8 := Lib.hid (o8.row elR)
          obtain ⟨a8, c8, e8, _, _⟩ := (o8.row elR).cells.form
          obtain ⟨M, hM⟩ : ∃ n, m.length = n := ⟨_, rfl⟩
          have HM := Lib.hid hM
          rw [hM] at e8 HFEW
          clear hM o8
          subst e8
          have HL8 := Lib.hid (HR7.out.keep b8)
          have HT8 := Lib.hid (HT7.out.keep b8)
          have PA8 := Lib.hid (show At w8 w.heap.size A from ⟨b8.obj PA7.out.block, hAA.out⟩)
          have PB8 := Lib.hid (show At w8 (w.heap.size + 1) B from ⟨b8.obj PB7.out.block, hBB.out⟩)
          have KW8 := Lib.hid (KW7.out.trans b8)
          have hM300 : M ≤ 300 := HFEW.out
          clear b8 HT7 PA7 PB7 KW7 HR7
          go_wp2
          go_loopw [12, 50] (fun n i wr => B2 w w8 b A B m n i wr) (fun _ i _ => M - (intOf i).toNat)
          case atStart => exact ⟨0, rfl, Nat.zero_le _, by simp, Keep.refl _⟩
          case round =>
            obtain ⟨k, rfl, hk, rfl, hkp⟩ := hrel
            rw [HM.out] at hk
            by_cases hlt : k < M
            · obtain ⟨g, o, cap', e, _, _, _⟩ := (show Cells rl w8 (.slice a8 m.length c8) m from by rw [HM.out]; exact HR8.out.cells).ptr k (by rw [HM.out]; exact hlt)
              rw [HM.out] at e
              simp at e
              obtain ⟨rfl, rfl⟩ := e
              obtain ⟨x, hx⟩ : ∃ x, m[k]? = some x := ⟨_, List.getElem?_eq_getElem (by rw [HM.out]; exact hlt)⟩
              have d1 := (show Cells rl wr (.slice (some ⟨g, o, none⟩) m.length c8) m from by rw [HM.out]; exact HR8.out.cells.keep hkp).rt HN.out k x hx
              have hI := RAt.new wr zeroR
              have hst := hI.store x
              have HX3 := Lib.hid (hI.put x)
              have hzx : (rc x).size = n := by rw [HN.out]; exact rc_size _
              have HKA := Lib.hid (show Keep w8 ((wr.alloc (.cells (rc zeroR) 34)).setRow wr.heap.size (rc x)) from hkp.trans (((Keep.refl wr).alloc _).setRow _ _ (Nat.le_refl _)))
              have lto := HX3.out.to HN2.out
              have la := (show At _ w.heap.size A from ⟨HKA.out.obj PA8.out.block, hAA.out⟩).whole HN2.out
              have HC1 := Lib.hid (qcompare x.to A x.ok hAA.out).keep
              have HC2 := Lib.hid (qcompare x.to B x.ok hBB.out).keep
              have HTI := Lib.hid (take_in (f := inB A B) hx)
              have HX := Lib.hid hx
              have HIN : Hid (inB A B x = (decide (0 ≤ cmpP x.to A) && decide (cmpP x.to B < 0))) := rfl
              clear hI hkp hx
              obtain ⟨z1, hz1⟩ : ∃ z, cmpP x.to A = z := ⟨_, rfl⟩
              obtain ⟨z2, hz2⟩ : ∃ z, cmpP x.to B = z := ⟨_, rfl⟩
              rw [hz1] at HC1 HIN
              rw [hz2] at HC2 HIN
              clear hz1 hz2
              obtain ⟨XX, hXX⟩ : ∃ X, rc x = X := ⟨_, rfl⟩
              have HXX := Lib.hid hXX
              rw [hXX] at d1 hst HX3 hzx HKA lto la
              clear hXX
              have hcl : ((m.take k).filter (inB A B)).length ≤ M := by
                have := List.length_filter_le (inB A B) (m.take k)
                rw [List.length_take] at this
                omega
              obtain ⟨cnt, hcnt⟩ : ∃ c, ((m.take k).filter (inB A B)).length = c := ⟨_, rfl⟩
              rw [hcnt] at hcl ⊢
              have HCNT := Lib.hid hcnt
              clear hcnt
              by_cases h1 : z1 ≥ 0
              · by_cases h2 : z2 < 0
                · have HIT := Lib.hid (show inB A B x = true from by rw [HIN.out, decide_eq_true (show 0 ≤ z1 by omega), decide_eq_true h2]; rfl)
                  have HNX := Lib.hid (next_in HX.out HIT.out)
                  rw [HCNT.out, ← HBF.out] at HNX
                  have hcN : cnt < N7 := by rw [← HN7.out]; exact (List.getElem?_eq_some_iff.1 HNX.out).1
                  have hcNI : ¬ ((cnt : Int) ≥ N7) := by omega
                  generalize (wr.alloc (.cells (rc zeroR) 34)).setRow wr.heap.size XX = w9 at *
                  go_wp2_with fail
                  refine (HC1.out _).mono ?_
                  rintro e w10 ⟨rfl, b10⟩
                  have lto2 := (show RAt w10 wr.heap.size x from HX3.out.keep b10).to HN2.out
                  have lb := (show At w10 (w.heap.size + 1) B from ⟨(HKA.out.trans b10).obj PB8.out.block, hBB.out⟩).whole HN2.out
                  clear d1 hst lto la hzx
                  go_wp2_with fail
                  refine (HC2.out _).mono ?_
                  rintro e w11 ⟨rfl, b11⟩
                  have HK11 := Lib.hid (HKA.out.trans (b10.trans b11))
                  obtain ⟨g7, o7, cap7, e7, _, _, _⟩ := (show Cells rl w8 (.slice a7 (betS m A B).length c7) (betS m A B) from by rw [HN7.out]; exact HL8.out.cells).ptr cnt (by rw [HN7.out]; exact hcN)
                  rw [HN7.out] at e7
                  simp at e7
                  obtain ⟨rfl, rfl⟩ := e7
                  have q1 : ∀ u : KW w11, (loadCellsFrom ⟨g7, o7 + cnt * n, none⟩ 0 n #[]).run Try.prog u.1 = .ok XX u.1 := fun u => by
                    rw [← HXX.out]
                    exact (show Cells rl u.1 (.slice (some ⟨g7, o7, none⟩) (betS m A B).length c7) (betS m A B) from by rw [HN7.out]; exact HL8.out.cells.keep (HK11.out.trans u.2)).rt HN.out cnt x HNX.out
                  have q2 : ∀ u : KW w11, (loadCellsFrom ⟨wr.heap.size, 0, none⟩ 0 n #[]).run Try.prog u.1 = .ok XX u.1 := fun u => by
                    rw [← HXX.out]
                    exact (show RAt u.1 wr.heap.size x from (HX3.out.keep (b10.trans b11)).keep u.2).whole HN.out
                  have heq : ∀ w, (Op.equalIn 10000 34 (.agg XX) (.agg XX)).run Try.prog w = .ok true w := fun w => by
                    rw [← HXX.out, show (true : Bool) = decide (x = x) by simp]
                    exact eq_rc 9995 x x w
                  clear lto2 lb b10 b11
                  go_wp2_with fail
                  refine wp_region_keep (Keep.refl _) (by kernel_rfl) (by kernel_rfl) ?_
                  repeat (first | go_big_quiet_step (fail) | quiet_step (fail))
                  refine wpQuiet_nil ?_
                  rintro w12 ⟨⟨w13, b13⟩, rfl⟩
                  have HK13 := Lib.hid (HK11.out.trans b13)
                  clear b13 q1 q2 heq
                  go_wp2
                  go_roundw
                  case rel => exact ⟨k + 1, by go_num, by rw [HM.out]; omega, by rw [HTI.out, if_pos HIT.out, List.length_append, HCNT.out]; simp, HK13.out⟩
                  case measure => simp [intOf]; omega
                · have HIT := Lib.hid (show inB A B x = false from by rw [HIN.out, decide_eq_false h2]; simp)
                  generalize (wr.alloc (.cells (rc zeroR) 34)).setRow wr.heap.size XX = w9 at *
                  go_wp2_with fail
                  refine (HC1.out _).mono ?_
                  rintro e w10 ⟨rfl, b10⟩
                  have lto2 := (show RAt w10 wr.heap.size x from HX3.out.keep b10).to HN2.out
                  have lb := (show At w10 (w.heap.size + 1) B from ⟨(HKA.out.trans b10).obj PB8.out.block, hBB.out⟩).whole HN2.out
                  clear d1 hst lto la hzx
                  go_wp2_with fail
                  refine (HC2.out _).mono ?_
                  rintro e w11 ⟨rfl, b11⟩
                  have HK11 := Lib.hid (HKA.out.trans (b10.trans b11))
                  clear lto2 lb b10 b11
                  go_wp2
                  go_roundw
                  case rel => exact ⟨k + 1, by go_num, by rw [HM.out]; omega, by rw [HTI.out, HIT.out]; simp [HCNT.out], HK11.out⟩
                  case measure => simp [intOf]; omega
              · have HIT := Lib.hid (show inB A B x = false from by rw [HIN.out, decide_eq_false (show ¬ 0 ≤ z1 by omega)]; rfl)
                generalize (wr.alloc (.cells (rc zeroR) 34)).setRow wr.heap.size XX = w9 at *
                go_wp2_with fail
                refine (HC1.out _).mono ?_
                rintro e w10 ⟨rfl, b10⟩
                have HK10 := Lib.hid (HKA.out.trans b10)
                clear d1 hst lto la hzx b10
                go_wp2
                go_roundw
                case rel => exact ⟨k + 1, by go_num, by rw [HM.out]; omega, by rw [HTI.out, HIT.out]; simp [HCNT.out], HK10.out⟩
                case measure => simp [intOf]; omega
            · have hcnt : ((m.take k).filter (inB A B)).length = N7 := by
                rw [List.take_of_length_le (by rw [HM.out]; omega), ← HBF.out, HN7.out]
              rw [hcnt]
              have la := (show At wr w.heap.size A from ⟨hkp.obj PA8.out.block, hAA.out⟩).whole HN2.out
              have HB1 := Lib.hid (between _ _ A A hAA.out hAA.out wr (Tp.of (HT8.out.keep hkp)))
              rw [bet_same] at HB1
              have HKR := Lib.hid hkp
              have hnn : ((N7 : Int) == N7) = true := by simp
              clear hcnt hkp
              go_wp2_with fail
              refine HB1.out.mono ?_
              rintro e w10 ⟨v10, rfl, r10, b10⟩
              obtain ⟨a10, c10, e10, _, _⟩ := r10.cells.form
              subst e10
              have HK10 := Lib.hid (HKR.out.trans b10)
              have la2 := (show At w10 w.heap.size A from ⟨HK10.out.obj PA8.out.block, hAA.out⟩).whole HN2.out
              have lb2 := (show At w10 (w.heap.size + 1) B from ⟨HK10.out.obj PB8.out.block, hBB.out⟩).whole HN2.out
              have HB2 := Lib.hid (between _ _ B A hBB.out hAA.out w10 (Tp.of (HT8.out.keep HK10.out)))
              rw [bet_back HT8.out.sorted hAA.out hBB.out HLE.out] at HB2
              clear la r10 b10 HB1 HKR
              go_wp2_with fail
              refine HB2.out.mono ?_
              rintro e w11 ⟨v11, rfl, r11, b11⟩
              obtain ⟨a11, c11, e11, _, _⟩ := r11.cells.form
              subst e11
              have HKF := Lib.hid (KW8.out.trans (HK10.out.trans b11))
              clear la2 lb2 r11 b11
              go_wp2
              go_ret
              exact ⟨rfl, HKF.out⟩

open Go.ChangeShapes Go.WideShapes Go.ChangeAt

set_option maxRecDepth 100000 in
theorem lifted (os : Os) (started : os.Started) (H : Type) (enc : TypeId × Value → H) :
    ReturnsInHanded {} Try.checked os 9 .any (Rows.tableBetweenSpec.pre6 enc Try.prog Try.f9 Rows.tableBetweenRow.domain false) (Rows.tableBetweenSpec.post enc Try.prog Try.f9 false true false false) := by
  refine returnsInHanded_of_change (C := Try.checked) own started (by kernel_rfl) Try.func9
    (ChangeSpec.witness6 (enc := enc) (C := Try.checked) false ⟨#[], #[.slice none 0 0, .agg (pc zeroP), .agg (pc zeroP)], []⟩ 8 (by kernel_rfl) (by kernel_rfl) (by kernel_rfl) (by kernel_rfl)) ?_
  intro W base args ds gs before hval0 hW hcnd _
  have hval : ∀ (j : Nat) t v, Try.f9.params[j]? = some t → args[j]? = some v → Value.okWide Try.prog W .any base t v := hval0
  have hW' := hW
  obtain ⟨p, q, hA0, hV, rfl, hfz, hnd⟩ := hW
  have hA : DataW.TrodAll enc Try.prog W 0 (fun _ => true) true Try.f9.params.toList args.toList ds p := hA0

  rw [Try.params9] at hA hval
  obtain ⟨v0, vs0, d0, ds0, p0, q0, hargs, rfl, rfl, h0, r0⟩ := trodAll_cons hA
  obtain ⟨v1, vs1, d1, ds1, p1, q1, rfl, rfl, rfl, h1, r1⟩ := trodAll_cons r0
  obtain ⟨v2, vs2, d2, ds2, p2, q2, rfl, rfl, rfl, h2, r2⟩ := trodAll_cons r1
  obtain ⟨rfl, rfl, rfl⟩ := trodAll_nil r2
  obtain rfl : args = #[v0, v1, v2] := by cases args; simp_all
  obtain ⟨rfl, rfl⟩ := trodVars_none hV
  have k0 := h0
  have lt0 : ∀ x ∈ p0, x.block < W.heap.size := by obtain ⟨m, hm⟩ := k0; exact DataW.trod_lt m _ _ _ hm
  have k1 := h1
  have lt1 : ∀ x ∈ p1, x.block < W.heap.size := by obtain ⟨m, hm⟩ := k1; exact DataW.trod_lt m _ _ _ hm
  have k2 := h2
  have lt2 : ∀ x ∈ p2, x.block < W.heap.size := by obtain ⟨m, hm⟩ := k2; exact DataW.trod_lt m _ _ _ hm
  obtain ⟨a0, cap0, l0, rfl, f0⟩ := open_routes (hval 0 31 v0 rfl rfl) h0
  obtain ⟨a1, rfl, f1⟩ := open_prefix (hval 1 25 v1 rfl rfl) h1
  obtain ⟨a2, rfl, f2⟩ := open_prefix (hval 2 25 v2 rfl rfl) h2
  clear hA0 hval0
  refine (walk a0 cap0 l0 a1 a2 W f0 f1 f2).mono fun e W' ⟨he, bel⟩ => ?_
  subst he
  exact ⟨_, rfl, _, _, _, [], _, [], hW', trodAll_mk1 (shut_bool Try.underlying4 _), (trodAll_cons_mk (Below.trod laidOut (by kernel_rfl) (of_decide_eq_true (by kernel_rfl)) k0 bel lt0) (trodAll_cons_mk (Below.trod laidOut (by kernel_rfl) (of_decide_eq_true (by kernel_rfl)) k1 bel lt1) (trodAll_cons_mk (Below.trod laidOut (by kernel_rfl) (of_decide_eq_true (by kernel_rfl)) k2 bel lt2) trodAll_mk0))), rfl, bel.frame _, fun h => by cases h⟩

theorem over : Rows.tableBetweenRow.holds Try.pinned (OpenSpec.ofChange Rows.tableBetweenSpec) :=
  OpenClaim.holds_of_wide 9 Try.f9 rfl rfl rfl rfl rfl rfl rfl ⟨rfl, rfl, rfl, rfl, rfl⟩ rfl rfl rfl rfl rfl (by kernel_rfl) Try.func9 (by kernel_rfl)
    (of_decide_eq_true (by kernel_rfl)) (by unfold Func.isWrapper; first | (rw [if_pos (by decide +kernel)]; kernel_rfl) | (rw [if_neg (by decide +kernel)]; exact ⟨rfl, rfl⟩))
    (fun os started H enc _ => lifted os started H enc)
end Go.Proofs.Ytgocmolebanflaa.LTableBetween

namespace Go.Proofs.Ytgocmolebanflaa
theorem tableBetween_holds : Rows.TableBetweenSaid := LTableBetween.over
#print axioms tableBetween_holds
end Go.Proofs.Ytgocmolebanflaa

