/- Proved: for every list of calls and every two prefixes the law TablePlays returns true (in every order of calls a table has just the routes that the document says, in order, and refuses as it says), and its arguments read behind the call as they read before. No condition. -/
import Derived.Test.YtgocmolebanflaaAx
import Derived.Test.YtgocmolebanflaaRq
import Derived.Test.YtgocmolebanflaaRb
import Derived.Test.YtgocmolebanflaaOp2
import Derived.Deep.RegionHeld3
import Derived.ShutString
import Derived.ChangeOld
namespace Go.Proofs.Ytgocmolebanflaa.LTablePlays
open Go.RowKit

theorem new_0 : newE [] = 0 := by
  unfold newE
  rw [if_pos (by simp), if_pos (by simp), if_pos (by simp)]
theorem rank_mono {l : List Rt} (hs : Sorted l) {p q : Px} (hp : L16 p) (hq : L16 q) (h : cmpP p q ≤ 0) : rank l p ≤ rank l q := by
  rcases Nat.lt_or_ge (rank l q) (rank l p) with h1 | h1
  · have hlt : rank l q < l.length := Nat.lt_of_lt_of_le h1 (rank_le l p)
    have hx : l[rank l q]? = some l[rank l q] := List.getElem?_eq_getElem hlt
    have k1 := (lt_rank hs hp _ _ hx).2 h1
    have k2 : ¬ cmpP (l[rank l q]).to q < 0 := fun h2 => by have := (lt_rank hs hq _ _ hx).1 h2; omega
    by_cases h0 : cmpP p q = 0
    · rw [(cmp_zero hp hq).1 h0] at k1
      exact absurd k1 k2
    · exact absurd (cmp_lt_trans (l[rank l q]).ok hp hq k1 (by omega)) k2
  · exact h1
theorem bet_filter {l : List Rt} (hs : Sorted l) {p q : Px} (hp : L16 p) (hq : L16 q) (h : cmpP p q ≤ 0) : betS l p q = l.filter (inQ p q) := by
  have hm := rank_mono hs hp hq h
  have hd : l.drop (rank l q) = (l.drop (rank l p)).drop (rank l q - rank l p) := by rw [List.drop_drop]; congr 1; omega
  have e : l = l.take (rank l p) ++ (betS l p q ++ l.drop (rank l q)) := by
    unfold betS
    rw [hd, List.take_append_drop, List.take_append_drop]
  have f1 : (l.take (rank l p)).filter (inQ p q) = [] := by
    rw [List.filter_eq_nil_iff]
    intro a ha
    have := take_rank hs hp a ha
    simp [inQ]
    omega
  have f3 : (l.drop (rank l q)).filter (inQ p q) = [] := by
    rw [List.filter_eq_nil_iff]
    intro a ha
    have := drop_rank hs hq a ha
    simp [inQ]
    omega
  have f2 : (betS l p q).filter (inQ p q) = betS l p q := by
    rw [List.filter_eq_self]
    intro a ha
    unfold betS at ha
    have k1 := drop_rank hs hp a (List.mem_of_mem_take ha)
    obtain ⟨j, hj, he⟩ := List.mem_iff_getElem.1 ha
    rw [List.length_take, List.length_drop] at hj
    rw [List.getElem_take, List.getElem_drop] at he
    have k2 := (lt_rank hs hq (rank l p + j) a (by rw [← he]; exact List.getElem?_eq_getElem _)).2 (by omega)
    simp [inQ, k1, k2]
  conv => rhs; rw [e]
  rw [List.filter_append, List.filter_append, f1, f2, f3, List.nil_append, List.append_nil]
theorem bet_same (l : List Rt) (p : Px) : betS l p p = [] := by simp [betS]
theorem bet_back {l : List Rt} (hs : Sorted l) {p q : Px} (hp : L16 p) (hq : L16 q) (h : cmpP p q ≤ 0) : betS l q p = [] := by
  have := rank_mono hs hp hq h
  simp only [betS]
  rw [show rank l p - rank l q = 0 by omega, List.take_zero]
theorem bet_any {l : List Rt} (hs : Sorted l) {p q : Px} (hp : L16 p) (hq : L16 q) : betS l p q = l.filter (inQ p q) := by
  by_cases h : cmpP p q ≤ 0
  · exact bet_filter hs hp hq h
  · have hqp : cmpP q p < 0 := by rw [cmp_neg hq hp]; omega
    rw [bet_back hs hq hp (by omega)]
    refine (List.filter_eq_nil_iff.2 fun a _ => ?_).symm
    intro hin
    simp only [inQ, Bool.and_eq_true, decide_eq_true_eq] at hin
    have := cmp_lt_trans a.ok hq hp hin.2 hqp
    omega
def oc (o : Ov) : Array Value := (ol o).toArray
def zeroO : Ov := ⟨0, 0, zeroR⟩
theorem oc_size (o : Ov) : (oc o).size = 22 := by simp [oc, ol_len]
theorem info36 : (Try.prog.info? 36).map (fun i => (i.zero, i.size)) = some (some (.agg (oc zeroO)), 22) := by kernel_rfl
theorem oc_one (o : Ov) : ∀ v ∈ (oc o).toList, v.oneCell' = true := by
  intro v hv
  have hv : v ∈ ol o := by simpa [oc] using hv
  rw [ol] at hv
  rcases List.mem_cons.1 hv with rfl | hv
  · rfl
  · rcases List.mem_cons.1 hv with rfl | hv
    · rfl
    · exact rl_one _ v hv
def OAt (w : World) (b : Nat) (o : Ov) : Prop := w.heap[b]? = some (.cells (oc o) 36 (0, 0))
theorem OAt.keep {w w' : World} {b : Nat} {o : Ov} (h : OAt w b o) (k : Keep w w') : OAt w' b o := k.obj h
theorem OAt.new (w : World) (o : Ov) : OAt (w.alloc (.cells (oc o) 36)) w.heap.size o := heap_alloc_last w _
theorem OAt.store {w : World} {b : Nat} {z : Ov} (h : OAt w b z) (o : Ov) : (storeCells ⟨b, 0, none⟩ (oc o).toList).run Try.prog w = .ok () (w.setRow b (oc o)) := by
  have hsc := run_storeCells_from (P := Try.prog) b 36 (oc o).toList 0 (oc z) w h (by rw [oc_size z]; simp [oc_size o]) (oc_one o)
  rw [List.take_zero, List.nil_append, Array.toArray_toList] at hsc
  exact hsc
theorem OAt.put {w : World} {b : Nat} {z : Ov} (h : OAt w b z) (o : Ov) : OAt (w.setRow b (oc o)) b o := block_row h _
theorem OAt.part {w : World} {b n : Nat} {o : Ov} (h : OAt w b o) (L : List Value) (hn : n = L.length) (hL : ∀ (j : Nat) (v : Value), L[j]? = some v → (rl o.r)[j]? = some v) : (loadCellsFrom ⟨b, 2, none⟩ 0 n #[]).run Try.prog w = .ok L.toArray w := by
  refine load_part (P := Try.prog) (o := 2) (n := n) L hn.symm h (fun j v hv => ?_)
  have := hL j v hv
  rw [show 2 + j = j + 1 + 1 by omega]
  simpa [oc, ol] using this
theorem OAt.route {w : World} {b n : Nat} {o : Ov} (h : OAt w b o) (hn : n = 20) : (loadCellsFrom ⟨b, 2, none⟩ 0 n #[]).run Try.prog w = .ok (rc o.r) w := h.part (rl o.r) (by rw [rl_len, hn]) fun _ _ h => h
theorem OAt.to {w : World} {b n : Nat} {o : Ov} (h : OAt w b o) (hn : n = 18) : (loadCellsFrom ⟨b, 2, none⟩ 0 n #[]).run Try.prog w = .ok (pc o.r.to) w := by
  have := h.part (n := n) (pc o.r.to).toList (by rw [pcl _ o.r.ok, hn]) (fun j v hv => by
    rw [rl, List.getElem?_append_left (List.getElem?_eq_some_iff.1 hv).1, hv])
  simpa using this
theorem Cells.op {w : World} {g o cap n : Nat} {l : List Ov} (h : Cells ol w (.slice (some ⟨g, o, none⟩) l.length cap) l) (hn : n = 22) (j : Nat) (x : Ov) (hx : l[j]? = some x) : (loadCellsFrom ⟨g, o + j * n, none⟩ 0 n #[]).run Try.prog w = .ok (oc x) w := by
  have := h.load (P := Try.prog) (n := n) ol_len j x hx 0 22 (ol x) (by rw [List.drop_zero, List.take_of_length_le (by rw [ol_len]; exact Nat.le_refl _)]) (by omega) hn
  rw [Nat.add_zero, ← hn] at this
  exact this
theorem OAt.kind {w : World} {b : Nat} {o : Ov} (h : OAt w b o) : w.cell? ⟨b, 0, none⟩ = some (.int .i64 o.kind) := cell_obj h rfl
theorem OAt.inc {w : World} {b : Nat} {o : Ov} (h : OAt w b o) : w.cell? ⟨b, 1, none⟩ = some (.int .i64 o.inc) := cell_obj h rfl
theorem info43b : (Try.prog.info? 43).map (fun i => (i.zero, i.size)) = some (some (.agg (ic zeroI)), 21) := by kernel_rfl
theorem ic_one (o : Ic) : ∀ v ∈ (ic o).toList, v.oneCell' = true := by
  intro v hv
  exact il_one o v (by simpa [ic] using hv)
theorem IAt.store {w : World} {b : Nat} {z : Ic} (h : IAt w b z) (o : Ic) : (storeCells ⟨b, 0, none⟩ (ic o).toList).run Try.prog w = .ok () (w.setRow b (ic o)) := by
  have hsc := run_storeCells_from (P := Try.prog) b 43 (ic o).toList 0 (ic z) w h (by rw [ic_size z]; simp [ic_size o]) (ic_one o)
  rw [List.take_zero, List.nil_append, Array.toArray_toList] at hsc
  exact hsc
theorem IAt.put {w : World} {b : Nat} {z : Ic} (h : IAt w b z) (o : Ic) : IAt (w.setRow b (ic o)) b o := block_row h _
theorem get_no {l : List Rt} {p : Px} (h : hasP l p = false) : getS l p = zeroR := by
  unfold getS
  rw [if_neg (by simp [h])]
theorem get_yes {l : List Rt} (hs : Sorted l) {p : Px} (hp : L16 p) {k : Nat} {x : Rt} (hx : l[k]? = some x) (he : x.to = p) : hasP l p = true ∧ getS l p = x := by
  obtain ⟨h1, h2⟩ := find_rank hs hp hx he
  refine ⟨h1, ?_⟩
  unfold getS
  rw [if_pos h1, h2, List.getD_eq_getElem?_getD, hx]
  rfl
def Pl (w : World) (b : Nat) (p q : Px) (N : Nat) (v i : Value) (wr : World) : Prop := ∃ (k : Nat) (m : List Rt), i = .int .i64 k ∧ k ≤ N ∧ Tb wr b m ∧ Row rl 34 wr v m ∧ At wr w.heap.size p ∧ At wr (w.heap.size + 1) q ∧ Keep w wr

set_option maxRecDepth 100000 in
set_option maxHeartbeats 8000000 in
theorem walk (a : Option Addr) (cap : Nat) (l : List Ov) (p q : Px) (w : World) (hA : ArgL ol w a cap l) (hp : p.addr.length = 16) (hq : q.addr.length = 16) : Calls Try.prog 3 #[.slice a l.length cap, .agg (pc p), .agg (pc q)] w fun e w' => e = .returned (.bool true) ∧ Below w.heap.size w w' := by
  obtain ⟨hP, hQ, hS⟩ := two_at w p q hp hq
  have hsm := hA.small
  unfold maxLen at hsm
  have HAR := Lib.hid hA
  have HP := Lib.hid hP
  have HQ := Lib.hid hQ
  have HS := Lib.hid hS.keep
  clear hA hP hQ hS
  obtain ⟨L, hL⟩ : ∃ n, l.length = n := ⟨_, rfl⟩
  have HL := Lib.hid hL
  rw [hL] at hsm ⊢
  clear hL
  by_cases hbig : 200 < L
  · have hbI : (L : Int) > 200 := by omega
    go_enter Try.func3, Try.ntmps3
    go_wp2_with fail
    refine (awake _).mono ?_
    rintro e w1 ⟨rfl, b1⟩
    go_wp2_with fail
    refine (awake _).mono ?_
    rintro e w2 ⟨rfl, b2⟩
    go_wp2
    go_ret
    exact ⟨rfl, HS.out.trans (b1.trans b2)⟩
  have hbI : ¬ ((L : Int) > 200) := by omega
  obtain ⟨hz34, _⟩ := zero_of_info info34b
  obtain ⟨hz36, _⟩ := zero_of_info info36
  obtain ⟨hz43, _⟩ := zero_of_info info43b
  obtain ⟨n, hn⟩ : ∃ n, n = 20 := ⟨20, rfl⟩
  have hsz : ∀ w, (Go.sizeOf 34).run Try.prog w = .ok n w := fun w => by rw [hn]; exact Try.sizeOf34 w
  have hn0 : ¬ n = 0 := by omega
  obtain ⟨n2, hn2⟩ : ∃ n, n = 18 := ⟨18, rfl⟩
  have hsz2 : ∀ w, (Go.sizeOf 25).run Try.prog w = .ok n2 w := fun w => by rw [hn2]; exact Try.sizeOf25 w
  have hn20 : ¬ n2 = 0 := by omega
  obtain ⟨n3, hn3⟩ : ∃ n, n = 22 := ⟨22, rfl⟩
  have hsz3 : ∀ w, (Go.sizeOf 36).run Try.prog w = .ok n3 w := fun w => by rw [hn3]; exact Try.sizeOf36 w
  have hn30 : ¬ n3 = 0 := by omega
  obtain ⟨n4, hn4⟩ : ∃ n, n = 21 := ⟨21, rfl⟩
  have hsz4 : ∀ w, (Go.sizeOf 43).run Try.prog w = .ok n4 w := fun w => by rw [hn4]; exact Try.sizeOf43 w
  have hn40 : ¬ n4 = 0 := by omega
  have hzs : (rc zeroR).size = n := by rw [hn]; exact rc_size _
  have hzo : (oc zeroO).size = n3 := by rw [hn3]; exact oc_size _
  have hzi : (ic zeroI).size = n4 := by rw [hn4]; exact ic_size _
  have HN := Lib.hid hn
  have HN2 := Lib.hid hn2
  have HN3 := Lib.hid hn3
  have HN4 := Lib.hid hn4
  clear hn hn2 hn3 hn4
  go_enter Try.func3, Try.ntmps3
  go_wp2_with fail
  refine (awake _).mono ?_
  rintro e w1 ⟨rfl, b1⟩
  go_wp2_with fail
  refine (new_of _ [] [] w1 (Cells.nil w1) (by simp) new_0 Sorted.nil (List.Perm.refl _)).mono ?_
  rintro e w2 ⟨b, rfl, hb, tb, b2⟩
  have HT2 := Lib.hid tb
  have HK2 := Lib.hid (HS.out.trans (b1.trans b2))
  have HP2 := Lib.hid (show At w2 w.heap.size p from ⟨(b1.trans b2).obj HP.out.block, hp⟩)
  have HQ2 := Lib.hid (show At w2 (w.heap.size + 1) q from ⟨(b1.trans b2).obj HQ.out.block, hq⟩)
  have hbw : w.heap.size + 1 < b := by
    have := block_lt (b1.obj HQ.out.block)
    omega
  clear tb b1 b2 hb HP HQ HS
  go_wp2
  go_loopw [9, 34] (fun v i wr => Pl w b p q L v i wr) (fun _ i _ => L - (intOf i).toNat)
  case atStart => exact ⟨0, [], rfl, Nat.zero_le _, HT2.out, Row.nil _ _, HP2.out, HQ2.out, HK2.out⟩
  case round =>
    clear HT2 HP2 HQ2 HK2
    obtain ⟨k, m, rfl, hk, tb, rv, pa, qa, hkp⟩ := hrel
    by_cases hlt : k < L
    · have hne : l ≠ [] := fun e => by have := HL.out; rw [e] at this; simp at this; omega
      have hcl := (HAR.out.keep hkp).cells hne
      obtain ⟨g, o, cap', e, _, _, _⟩ := hcl.ptr k (by rw [HL.out]; exact hlt)
      simp at e
      obtain ⟨rfl, rfl⟩ := e
      obtain ⟨x, hx⟩ : ∃ x, l[k]? = some x := ⟨_, List.getElem?_eq_getElem (by rw [HL.out]; exact hlt)⟩
      have d1 := Cells.op hcl HN3.out k x hx
      have hI := OAt.new wr zeroO
      have hst := hI.store x
      have HO3 := Lib.hid (hI.put x)
      have hkd := (hI.put x).kind
      have hzx : (oc x).size = n3 := by rw [HN3.out]; exact oc_size _
      have HKA := Lib.hid (show Keep wr ((wr.alloc (.cells (oc zeroO) 36)).setRow wr.heap.size (oc x)) from ((Keep.refl wr).alloc _).setRow _ _ (Nat.le_refl _))
      have HTB := Lib.hid (tb.keep HKA.out)
      have HRV := Lib.hid (rv.keep HKA.out)
      have HPA := Lib.hid (show At _ w.heap.size p from ⟨HKA.out.obj pa.block, hp⟩)
      have HQA := Lib.hid (show At _ (w.heap.size + 1) q from ⟨HKA.out.obj qa.block, hq⟩)
      have HKK := Lib.hid (hkp.trans HKA.out)
      have hbo : b ≠ wr.heap.size := by obtain ⟨⟨_, h, _⟩, _, _⟩ := tb; have := block_lt h; omega
      have hfew := tb.few
      have HSO := Lib.hid tb.sorted
      have hpw : w.heap.size + 1 < wr.heap.size := block_lt qa.block
      clear hcl hI hx tb rv pa qa hkp HKA
      obtain ⟨XX, hXX⟩ : ∃ X, oc x = X := ⟨_, rfl⟩
      rw [hXX] at d1 hst hzx hkd HO3 HTB HRV HPA HQA HKK
      clear hXX
      generalize (wr.alloc (.cells (oc zeroO) 36)).setRow wr.heap.size XX = w3 at *
      obtain ⟨kd, hkdE⟩ : ∃ z, x.kind = z := ⟨_, rfl⟩
      rw [hkdE] at hkd
      clear hkdE
      by_cases hk1 : kd = 1
      · have hk1b : (kd == 1) = true := by simpa using hk1
        have hl3 := HO3.out.route HN.out
        have HPU := Lib.hid (put b m x.r w3 HTB.out)
        obtain ⟨X, hXE⟩ : ∃ X, putS m x.r = X := ⟨_, rfl⟩
        have HXE := Lib.hid hXE
        clear hXE
        go_wp2_with fail
        refine HPU.out.mono ?_
        rintro e w4 ⟨rfl, t4, o4⟩
        have HPA4 := Lib.hid (show At w4 w.heap.size p from ⟨o4.obj HPA.out.block (by omega), hp⟩)
        have HQA4 := Lib.hid (show At w4 (w.heap.size + 1) q from ⟨o4.obj HQA.out.block (by omega), hq⟩)
        have HRV4 := Lib.hid (Tb.row HRV.out HTB.out o4 (by decide))
        have HOA4 := Lib.hid (show OAt w4 wr.heap.size x from o4.obj HO3.out (Ne.symm hbo))
        have HKK4 := Lib.hid (o4.made HKK.out (by omega))
        have HT4 := Lib.hid t4
        have hl4 := HOA4.out.route HN.out
        have HQU := Lib.hid (qput _ m x.r w4 HRV4.out HSO.out hfew)
        clear o4 t4 d1 hst hl3 hzx HPU HPA HQA HRV HKK HTB HO3 hkd
        rw [HXE.out] at HQU HT4 ⊢
        go_wp2_with fail
        refine HQU.out.mono ?_
        rintro e wA ⟨vA, rfl, rA, bA⟩
        have HRA := Lib.hid rA
        have HTA := Lib.hid (HT4.out.keep bA)
        have HOA := Lib.hid (HOA4.out.keep bA)
        have HPA5 := Lib.hid (show At wA w.heap.size p from ⟨bA.obj HPA4.out.block, hp⟩)
        have HQA5 := Lib.hid (show At wA (w.heap.size + 1) q from ⟨bA.obj HQA4.out.block, hq⟩)
        have HKK5 := Lib.hid (HKK4.out.trans bA)
        clear rA bA hl4 HQU HT4 HOA4 HPA4 HQA4 HKK4 HRV4
        obtain ⟨M, E⟩ := X
        simp only at HTA HRA ⊢
        have hEE : (E != E) = false := by simp
        have hMf := HTA.out.few
        obtain ⟨aA, cA, eA, _, _⟩ := HRA.out.cells.form
        obtain ⟨ML, hML⟩ : ∃ n, M.length = n := ⟨_, rfl⟩
        have HML := Lib.hid hML
        rw [hML] at eA hMf
        clear hML
        subst eA
        have hLL : ((ML : Int) != ML) = false := by simp
        have lto := HOA.out.to HN2.out
        have HGE := Lib.hid (get _ M x.r.to x.r.ok wA (Tp.of HTA.out))
        go_wp2_with fail
        refine HGE.out.mono ?_
        rintro e wB ⟨rfl, bB⟩
        have hIB := RAt.new wB zeroR
        have hstB := hIB.store (getS M x.r.to)
        have HRB := Lib.hid (hIB.put (getS M x.r.to))
        have hzB : (rc (getS M x.r.to)).size = n := by rw [HN.out]; exact rc_size _
        have HKC := Lib.hid (show Keep wA ((wB.alloc (.cells (rc zeroR) 34)).setRow wB.heap.size (rc (getS M x.r.to))) from ((bB.alloc _).setRow _ _ bB.size))
        have lto2 := (show OAt _ wr.heap.size x from HOA.out.keep HKC.out).to HN2.out
        have HFI := Lib.hid (find _ M x.r.to x.r.ok _ (show Cells rl _ (.slice aA ML cA) M from HRA.out.cells.keep HKC.out) (by rw [HML.out]; omega))
        clear bB hIB HGE lto
        obtain ⟨RG, hRG⟩ : ∃ X, rc (getS M x.r.to) = X := ⟨_, rfl⟩
        rw [hRG] at hstB HRB hzB HKC lto2 HFI ⊢
        have HRG := Lib.hid hRG
        clear hRG
        generalize (wB.alloc (.cells (rc zeroR) 34)).setRow wB.heap.size RG = wC at *
        go_wp2_with fail
        refine HFI.out.mono ?_
        rintro e wD ⟨z, rfl, hf, bD⟩
        have HKD := Lib.hid (HKC.out.trans bD)
        have HRD := Lib.hid (HRB.out.keep bD)
        have HLN : Hid (∀ u : KW wD, Calls Try.prog 20 #[.pointer (some ⟨b, 0, none⟩)] u.1 fun e w'' => e = .returned (.int .i64 ML) ∧ ∃ m : KW wD, w'' = m.1) := fun u => keep_at (fun w1 k1 => by
          have := len_at _ _ w1 (Tp.of (HTA.out.keep (HKD.out.trans k1)))
          rw [HML.out] at this
          exact this) u
        clear bD HFI HRB HKC lto2 hstB hzB
        rcases hf with ⟨rfl, hh⟩ | ⟨j, y, rfl, hy, he⟩
        · have hg := get_no hh
          rw [hh]
          have dr : ∀ u : KW wD, (loadCellsFrom ⟨wB.heap.size, 0, none⟩ 0 n #[]).run Try.prog u.1 = .ok (rc zeroR) u.1 := fun u => by
            have := (show RAt u.1 wB.heap.size (getS M x.r.to) from by
              have h0 := HRD.out.keep u.2
              exact h0).whole HN.out
            rw [hg] at this
            exact this
          have heq : ∀ w, (Op.equalIn 10000 34 (.agg (rc zeroR)) (.agg (rc zeroR))).run Try.prog w = .ok true w := fun w => by
            rw [show (true : Bool) = decide (zeroR = zeroR) by simp]
            exact eq_rc 9995 zeroR zeroR w
          have hbn : ∀ w, (Instr.build 34 #[]).run Try.prog w = .ok (.agg (rc zeroR)) w := build_no
          clear hg hh
          generalize rc zeroR = ZR at *
          go_wp2_with fail
          refine wp_region_keep (Keep.refl _) (by kernel_rfl) (by kernel_rfl) ?_
          repeat (first | go_big_quiet_step (fail) | quiet_step (fail))
          first | go_big_quiet_step (exact HLN.out _) | quiet_step (exact HLN.out _)
          repeat (first | go_big_quiet_step (fail) | quiet_step (fail))
          refine wpQuiet_nil ?_
          rintro w6 ⟨⟨w7, b7⟩, hw6⟩
          obtain rfl : w7 = w6 := hw6.symm
          clear hw6
          have HB7 := Lib.hid (HKD.out.trans b7)
          clear b7 dr heq hbn
          go_wp2
          go_roundw
          case rel => exact ⟨k + 1, M, by go_num, by omega, HTA.out.keep HB7.out, HRA.out.keep HB7.out, ⟨HB7.out.obj HPA5.out.block, hp⟩, ⟨HB7.out.obj HQA5.out.block, hq⟩, HKK5.out.trans HB7.out⟩
          case measure => simp [intOf]; omega
        · obtain ⟨hh, hg⟩ := get_yes HTA.out.sorted x.r.ok hy he
          rw [hh]
          have hjM : j < ML := by rw [← HML.out]; exact (List.getElem?_eq_some_iff.1 hy).1
          obtain ⟨g9, o9, cap9, e9, _, _, _⟩ := (show Cells rl wA (.slice aA M.length cA) M from by rw [HML.out]; exact HRA.out.cells).ptr j (by rw [HML.out]; exact hjM)
          rw [HML.out] at e9
          simp at e9
          obtain ⟨rfl, rfl⟩ := e9
          have dr : ∀ u : KW wD, (loadCellsFrom ⟨wB.heap.size, 0, none⟩ 0 n #[]).run Try.prog u.1 = .ok (rc y) u.1 := fun u => by
            have := (show RAt u.1 wB.heap.size (getS M x.r.to) from by
              have h0 := HRD.out.keep u.2
              exact h0).whole HN.out
            rw [hg] at this
            exact this
          have dw : ∀ u : KW wD, (loadCellsFrom ⟨g9, o9 + j * n, none⟩ 0 n #[]).run Try.prog u.1 = .ok (rc y) u.1 := fun u => (show Cells rl u.1 (.slice (some ⟨g9, o9, none⟩) M.length cA) M from by rw [HML.out]; exact HRA.out.cells.keep (HKD.out.trans u.2)).rt HN.out j y hy
          have heq : ∀ w, (Op.equalIn 10000 34 (.agg (rc y)) (.agg (rc y))).run Try.prog w = .ok true w := fun w => by
            rw [show (true : Bool) = decide (y = y) by simp]
            exact eq_rc 9995 y y w
          have hjI : (j : Int) ≥ 0 := by omega
          have hjd : decide ((j : Int) ≥ 0) = true := decide_eq_true hjI
          clear hg hh hy he
          generalize rc y = Y at *
          go_wp2_with fail
          refine wp_region_keep (Keep.refl _) (by kernel_rfl) (by kernel_rfl) ?_
          repeat (first | go_big_quiet_step (fail) | quiet_step (fail))
          first | go_big_quiet_step (exact HLN.out _) | quiet_step (exact HLN.out _)
          repeat (first | go_big_quiet_step (fail) | quiet_step (fail))
          refine wpQuiet_nil ?_
          rintro w6 ⟨⟨w7, b7⟩, hw6⟩
          obtain rfl : w7 = w6 := hw6.symm
          clear hw6
          have HB7 := Lib.hid (HKD.out.trans b7)
          clear b7 dr dw heq
          go_wp2
          go_roundw
          case rel => exact ⟨k + 1, M, by go_num, by omega, HTA.out.keep HB7.out, HRA.out.keep HB7.out, ⟨HB7.out.obj HPA5.out.block, hp⟩, ⟨HB7.out.obj HQA5.out.block, hq⟩, HKK5.out.trans HB7.out⟩
          case measure => simp [intOf]; omega
      have hk1b : (kd == 1) = false := by simpa using hk1
      by_cases hk2 : kd = 2
      · have hk2b : (kd == 2) = true := by simpa using hk2
        have hl3 := HO3.out.to HN2.out
        have HPU := Lib.hid (drop b m x.r.to x.r.ok w3 HTB.out)
        obtain ⟨X, hXE⟩ : ∃ X, dropS m x.r.to = X := ⟨_, rfl⟩
        have HXE := Lib.hid hXE
        clear hXE
        go_wp2_with fail
        refine HPU.out.mono ?_
        rintro e w4 ⟨rfl, t4, o4⟩
        have HPA4 := Lib.hid (show At w4 w.heap.size p from ⟨o4.obj HPA.out.block (by omega), hp⟩)
        have HQA4 := Lib.hid (show At w4 (w.heap.size + 1) q from ⟨o4.obj HQA.out.block (by omega), hq⟩)
        have HRV4 := Lib.hid (Tb.row HRV.out HTB.out o4 (by decide))
        have HOA4 := Lib.hid (show OAt w4 wr.heap.size x from o4.obj HO3.out (Ne.symm hbo))
        have HKK4 := Lib.hid (o4.made HKK.out (by omega))
        have HT4 := Lib.hid t4
        have hl4 := HOA4.out.to HN2.out
        have HQU := Lib.hid (qdrop _ m x.r.to x.r.ok w4 HRV4.out HSO.out hfew)
        clear o4 t4 d1 hst hl3 hzx HPU HPA HQA HRV HKK HTB HO3 hkd
        rw [HXE.out] at HQU HT4 ⊢
        go_wp2_with fail
        refine HQU.out.mono ?_
        rintro e wA ⟨vA, rfl, rA, bA⟩
        have HRA := Lib.hid rA
        have HTA := Lib.hid (HT4.out.keep bA)
        have HOA := Lib.hid (HOA4.out.keep bA)
        have HPA5 := Lib.hid (show At wA w.heap.size p from ⟨bA.obj HPA4.out.block, hp⟩)
        have HQA5 := Lib.hid (show At wA (w.heap.size + 1) q from ⟨bA.obj HQA4.out.block, hq⟩)
        have HKK5 := Lib.hid (HKK4.out.trans bA)
        clear rA bA hl4 HQU HT4 HOA4 HPA4 HQA4 HKK4 HRV4
        obtain ⟨M, E⟩ := X
        simp only at HTA HRA ⊢
        have hEE : (E != E) = false := by simp
        have hMf := HTA.out.few
        obtain ⟨aA, cA, eA, _, _⟩ := HRA.out.cells.form
        obtain ⟨ML, hML⟩ : ∃ n, M.length = n := ⟨_, rfl⟩
        have HML := Lib.hid hML
        rw [hML] at eA hMf
        clear hML
        subst eA
        have hLL : ((ML : Int) != ML) = false := by simp
        have lto := HOA.out.to HN2.out
        have HGE := Lib.hid (get _ M x.r.to x.r.ok wA (Tp.of HTA.out))
        go_wp2_with fail
        refine HGE.out.mono ?_
        rintro e wB ⟨rfl, bB⟩
        have hIB := RAt.new wB zeroR
        have hstB := hIB.store (getS M x.r.to)
        have HRB := Lib.hid (hIB.put (getS M x.r.to))
        have hzB : (rc (getS M x.r.to)).size = n := by rw [HN.out]; exact rc_size _
        have HKC := Lib.hid (show Keep wA ((wB.alloc (.cells (rc zeroR) 34)).setRow wB.heap.size (rc (getS M x.r.to))) from ((bB.alloc _).setRow _ _ bB.size))
        have lto2 := (show OAt _ wr.heap.size x from HOA.out.keep HKC.out).to HN2.out
        have HFI := Lib.hid (find _ M x.r.to x.r.ok _ (show Cells rl _ (.slice aA ML cA) M from HRA.out.cells.keep HKC.out) (by rw [HML.out]; omega))
        clear bB hIB HGE lto
        obtain ⟨RG, hRG⟩ : ∃ X, rc (getS M x.r.to) = X := ⟨_, rfl⟩
        rw [hRG] at hstB HRB hzB HKC lto2 HFI ⊢
        have HRG := Lib.hid hRG
        clear hRG
        generalize (wB.alloc (.cells (rc zeroR) 34)).setRow wB.heap.size RG = wC at *
        go_wp2_with fail
        refine HFI.out.mono ?_
        rintro e wD ⟨z, rfl, hf, bD⟩
        have HKD := Lib.hid (HKC.out.trans bD)
        have HRD := Lib.hid (HRB.out.keep bD)
        have HLN : Hid (∀ u : KW wD, Calls Try.prog 20 #[.pointer (some ⟨b, 0, none⟩)] u.1 fun e w'' => e = .returned (.int .i64 ML) ∧ ∃ m : KW wD, w'' = m.1) := fun u => keep_at (fun w1 k1 => by
          have := len_at _ _ w1 (Tp.of (HTA.out.keep (HKD.out.trans k1)))
          rw [HML.out] at this
          exact this) u
        clear bD HFI HRB HKC lto2 hstB hzB
        rcases hf with ⟨rfl, hh⟩ | ⟨j, y, rfl, hy, he⟩
        · have hg := get_no hh
          rw [hh]
          have dr : ∀ u : KW wD, (loadCellsFrom ⟨wB.heap.size, 0, none⟩ 0 n #[]).run Try.prog u.1 = .ok (rc zeroR) u.1 := fun u => by
            have := (show RAt u.1 wB.heap.size (getS M x.r.to) from by
              have h0 := HRD.out.keep u.2
              exact h0).whole HN.out
            rw [hg] at this
            exact this
          have heq : ∀ w, (Op.equalIn 10000 34 (.agg (rc zeroR)) (.agg (rc zeroR))).run Try.prog w = .ok true w := fun w => by
            rw [show (true : Bool) = decide (zeroR = zeroR) by simp]
            exact eq_rc 9995 zeroR zeroR w
          have hbn : ∀ w, (Instr.build 34 #[]).run Try.prog w = .ok (.agg (rc zeroR)) w := build_no
          clear hg hh
          generalize rc zeroR = ZR at *
          go_wp2_with fail
          refine wp_region_keep (Keep.refl _) (by kernel_rfl) (by kernel_rfl) ?_
          repeat (first | go_big_quiet_step (fail) | quiet_step (fail))
          first | go_big_quiet_step (exact HLN.out _) | quiet_step (exact HLN.out _)
          repeat (first | go_big_quiet_step (fail) | quiet_step (fail))
          refine wpQuiet_nil ?_
          rintro w6 ⟨⟨w7, b7⟩, hw6⟩
          obtain rfl : w7 = w6 := hw6.symm
          clear hw6
          have HB7 := Lib.hid (HKD.out.trans b7)
          clear b7 dr heq hbn
          go_wp2
          go_roundw
          case rel => exact ⟨k + 1, M, by go_num, by omega, HTA.out.keep HB7.out, HRA.out.keep HB7.out, ⟨HB7.out.obj HPA5.out.block, hp⟩, ⟨HB7.out.obj HQA5.out.block, hq⟩, HKK5.out.trans HB7.out⟩
          case measure => simp [intOf]; omega
        · obtain ⟨hh, hg⟩ := get_yes HTA.out.sorted x.r.ok hy he
          rw [hh]
          have hjM : j < ML := by rw [← HML.out]; exact (List.getElem?_eq_some_iff.1 hy).1
          obtain ⟨g9, o9, cap9, e9, _, _, _⟩ := (show Cells rl wA (.slice aA M.length cA) M from by rw [HML.out]; exact HRA.out.cells).ptr j (by rw [HML.out]; exact hjM)
          rw [HML.out] at e9
          simp at e9
          obtain ⟨rfl, rfl⟩ := e9
          have dr : ∀ u : KW wD, (loadCellsFrom ⟨wB.heap.size, 0, none⟩ 0 n #[]).run Try.prog u.1 = .ok (rc y) u.1 := fun u => by
            have := (show RAt u.1 wB.heap.size (getS M x.r.to) from by
              have h0 := HRD.out.keep u.2
              exact h0).whole HN.out
            rw [hg] at this
            exact this
          have dw : ∀ u : KW wD, (loadCellsFrom ⟨g9, o9 + j * n, none⟩ 0 n #[]).run Try.prog u.1 = .ok (rc y) u.1 := fun u => (show Cells rl u.1 (.slice (some ⟨g9, o9, none⟩) M.length cA) M from by rw [HML.out]; exact HRA.out.cells.keep (HKD.out.trans u.2)).rt HN.out j y hy
          have heq : ∀ w, (Op.equalIn 10000 34 (.agg (rc y)) (.agg (rc y))).run Try.prog w = .ok true w := fun w => by
            rw [show (true : Bool) = decide (y = y) by simp]
            exact eq_rc 9995 y y w
          have hjI : (j : Int) ≥ 0 := by omega
          have hjd : decide ((j : Int) ≥ 0) = true := decide_eq_true hjI
          clear hg hh hy he
          generalize rc y = Y at *
          go_wp2_with fail
          refine wp_region_keep (Keep.refl _) (by kernel_rfl) (by kernel_rfl) ?_
          repeat (first | go_big_quiet_step (fail) | quiet_step (fail))
          first | go_big_quiet_step (exact HLN.out _) | quiet_step (exact HLN.out _)
          repeat (first | go_big_quiet_step (fail) | quiet_step (fail))
          refine wpQuiet_nil ?_
          rintro w6 ⟨⟨w7, b7⟩, hw6⟩
          obtain rfl : w7 = w6 := hw6.symm
          clear hw6
          have HB7 := Lib.hid (HKD.out.trans b7)
          clear b7 dr dw heq
          go_wp2
          go_roundw
          case rel => exact ⟨k + 1, M, by go_num, by omega, HTA.out.keep HB7.out, HRA.out.keep HB7.out, ⟨HB7.out.obj HPA5.out.block, hp⟩, ⟨HB7.out.obj HQA5.out.block, hq⟩, HKK5.out.trans HB7.out⟩
          case measure => simp [intOf]; omega
      have hk2b : (kd == 2) = false := by simpa using hk2
      have hin := HO3.out.inc
      have hro := HO3.out.route HN.out
      have HBI := Lib.hid (build_inc x.inc x.r)
      have hJ := IAt.new w3 zeroI
      have hst3 := IAt.store hJ ⟨x.inc, x.r⟩
      have HJ3 := Lib.hid (IAt.put hJ ⟨x.inc, x.r⟩)
      have hzj : (ic ⟨x.inc, x.r⟩).size = n4 := by rw [HN4.out]; exact ic_size _
      have HKJ := Lib.hid (show Keep w3 ((w3.alloc (.cells (ic zeroI) 43)).setRow w3.heap.size (ic ⟨x.inc, x.r⟩)) from ((Keep.refl w3).alloc _).setRow _ _ (Nat.le_refl _))
      have hl3 := HJ3.out.whole HN4.out
      have HTJ := Lib.hid (HTB.out.keep HKJ.out)
      have HRJ := Lib.hid (HRV.out.keep HKJ.out)
      have HPJ := Lib.hid (show At _ w.heap.size p from ⟨HKJ.out.obj HPA.out.block, hp⟩)
      have HQJ := Lib.hid (show At _ (w.heap.size + 1) q from ⟨HKJ.out.obj HQA.out.block, hq⟩)
      have HOJ := Lib.hid (show OAt _ wr.heap.size x from HO3.out.keep HKJ.out)
      have HKKJ := Lib.hid (HKK.out.trans HKJ.out)
      have hbj : b ≠ w3.heap.size := by obtain ⟨⟨_, h, _⟩, _, _⟩ := HTB.out; have := block_lt h; omega
      have HPU := Lib.hid (do_at b m ⟨x.inc, x.r⟩ _ HTJ.out)
      obtain ⟨X, hXE⟩ : ∃ X, doS m x.inc x.r = X := ⟨_, rfl⟩
      have HXE := Lib.hid hXE
      clear hXE HKJ hJ
      obtain ⟨RR, hRR⟩ : ∃ X, rc x.r = X := ⟨_, rfl⟩
      rw [hRR] at hro HBI
      clear hRR
      obtain ⟨II, hII⟩ : ∃ X, ic ⟨x.inc, x.r⟩ = X := ⟨_, rfl⟩
      have HII := Lib.hid hII
      rw [hII] at HBI hst3 HJ3 hzj hl3 HTJ HRJ HPJ HQJ HOJ HKKJ HPU
      clear hII
      generalize (w3.alloc (.cells (ic zeroI) 43)).setRow w3.heap.size II = wJ at *
      go_wp2_with (refine at_build [(0, .int .i64 x.inc), (1, .agg RR)] rfl _ (HBI.out _) ?_)
      refine HPU.out.mono ?_
      rintro e w4 ⟨rfl, t4, o4⟩
      have HPA4 := Lib.hid (show At w4 w.heap.size p from ⟨o4.obj HPJ.out.block (by omega), hp⟩)
      have HQA4 := Lib.hid (show At w4 (w.heap.size + 1) q from ⟨o4.obj HQJ.out.block (by omega), hq⟩)
      have HRV4 := Lib.hid (Tb.row HRJ.out HTJ.out o4 (by decide))
      have HOA4 := Lib.hid (show OAt w4 wr.heap.size x from o4.obj HOJ.out (Ne.symm hbo))
      have HJ4 := Lib.hid (show IAt w4 w3.heap.size ⟨x.inc, x.r⟩ from o4.obj HJ3.out (Ne.symm hbj))
      have HKK4 := Lib.hid (o4.made HKKJ.out (by omega))
      have HT4 := Lib.hid t4
      have hl4 := HJ4.out.whole HN4.out
      have HQU := Lib.hid (qdo _ m ⟨x.inc, x.r⟩ w4 HRV4.out HSO.out hfew)
      rw [HII.out] at hl4 HQU
      clear o4 t4 d1 hst hl3 hzx HPU HPA HQA HRV HKK HTB HO3 hkd hin hro hst3 hzj HJ3 HTJ HRJ HPJ HQJ HOJ HKKJ HBI
      simp only at HQU HT4 ⊢
      rw [HXE.out] at HQU HT4 ⊢
      go_wp2_with fail
      refine HQU.out.mono ?_
      rintro e wA ⟨vA, rfl, rA, bA⟩
      have HRA := Lib.hid rA
      have HTA := Lib.hid (HT4.out.keep bA)
      have HOA := Lib.hid (HOA4.out.keep bA)
      have HPA5 := Lib.hid (show At wA w.heap.size p from ⟨bA.obj HPA4.out.block, hp⟩)
      have HQA5 := Lib.hid (show At wA (w.heap.size + 1) q from ⟨bA.obj HQA4.out.block, hq⟩)
      have HKK5 := Lib.hid (HKK4.out.trans bA)
      clear rA bA hl4 HQU HT4 HOA4 HPA4 HQA4 HKK4 HRV4 HJ4
      obtain ⟨M, E⟩ := X
      simp only at HTA HRA ⊢
      have hEE : (E != E) = false := by simp
      have hMf := HTA.out.few
      obtain ⟨aA, cA, eA, _, _⟩ := HRA.out.cells.form
      obtain ⟨ML, hML⟩ : ∃ n, M.length = n := ⟨_, rfl⟩
      have HML := Lib.hid hML
      rw [hML] at eA hMf
      clear hML
      subst eA
      have hLL : ((ML : Int) != ML) = false := by simp
      have lto := HOA.out.to HN2.out
      have HGE := Lib.hid (get _ M x.r.to x.r.ok wA (Tp.of HTA.out))
      go_wp2_with fail
      refine HGE.out.mono ?_
      rintro e wB ⟨rfl, bB⟩
      have hIB := RAt.new wB zeroR
      have hstB := hIB.store (getS M x.r.to)
      have HRB := Lib.hid (hIB.put (getS M x.r.to))
      have hzB : (rc (getS M x.r.to)).size = n := by rw [HN.out]; exact rc_size _
      have HKC := Lib.hid (show Keep wA ((wB.alloc (.cells (rc zeroR) 34)).setRow wB.heap.size (rc (getS M x.r.to))) from ((bB.alloc _).setRow _ _ bB.size))
      have lto2 := (show OAt _ wr.heap.size x from HOA.out.keep HKC.out).to HN2.out
      have HFI := Lib.hid (find _ M x.r.to x.r.ok _ (show Cells rl _ (.slice aA ML cA) M from HRA.out.cells.keep HKC.out) (by rw [HML.out]; omega))
      clear bB hIB HGE lto
      obtain ⟨RG, hRG⟩ : ∃ X, rc (getS M x.r.to) = X := ⟨_, rfl⟩
      rw [hRG] at hstB HRB hzB HKC lto2 HFI ⊢
      have HRG := Lib.hid hRG
      clear hRG
      generalize (wB.alloc (.cells (rc zeroR) 34)).setRow wB.heap.size RG = wC at *
      go_wp2_with fail
      refine HFI.out.mono ?_
      rintro e wD ⟨z, rfl, hf, bD⟩
      have HKD := Lib.hid (HKC.out.trans bD)
      have HRD := Lib.hid (HRB.out.keep bD)
      have HLN : Hid (∀ u : KW wD, Calls Try.prog 20 #[.pointer (some ⟨b, 0, none⟩)] u.1 fun e w'' => e = .returned (.int .i64 ML) ∧ ∃ m : KW wD, w'' = m.1) := fun u => keep_at (fun w1 k1 => by
        have := len_at _ _ w1 (Tp.of (HTA.out.keep (HKD.out.trans k1)))
        rw [HML.out] at this
        exact this) u
      clear bD HFI HRB HKC lto2 hstB hzB
      rcases hf with ⟨rfl, hh⟩ | ⟨j, y, rfl, hy, he⟩
      · have hg := get_no hh
        rw [hh]
        have dr : ∀ u : KW wD, (loadCellsFrom ⟨wB.heap.size, 0, none⟩ 0 n #[]).run Try.prog u.1 = .ok (rc zeroR) u.1 := fun u => by
          have := (show RAt u.1 wB.heap.size (getS M x.r.to) from by
            have h0 := HRD.out.keep u.2
            exact h0).whole HN.out
          rw [hg] at this
          exact this
        have heq : ∀ w, (Op.equalIn 10000 34 (.agg (rc zeroR)) (.agg (rc zeroR))).run Try.prog w = .ok true w := fun w => by
          rw [show (true : Bool) = decide (zeroR = zeroR) by simp]
          exact eq_rc 9995 zeroR zeroR w
        have hbn : ∀ w, (Instr.build 34 #[]).run Try.prog w = .ok (.agg (rc zeroR)) w := build_no
        clear hg hh
        generalize rc zeroR = ZR at *
        go_wp2_with fail
        refine wp_region_keep (Keep.refl _) (by kernel_rfl) (by kernel_rfl) ?_
        repeat (first | go_big_quiet_step (fail) | quiet_step (fail))
        first | go_big_quiet_step (exact HLN.out _) | quiet_step (exact HLN.out _)
        repeat (first | go_big_quiet_step (fail) | quiet_step (fail))
        refine wpQuiet_nil ?_
        rintro w6 ⟨⟨w7, b7⟩, hw6⟩
        obtain rfl : w7 = w6 := hw6.symm
        clear hw6
        have HB7 := Lib.hid (HKD.out.trans b7)
        clear b7 dr heq hbn
        go_wp2
        go_roundw
        case rel => exact ⟨k + 1, M, by go_num, by omega, HTA.out.keep HB7.out, HRA.out.keep HB7.out, ⟨HB7.out.obj HPA5.out.block, hp⟩, ⟨HB7.out.obj HQA5.out.block, hq⟩, HKK5.out.trans HB7.out⟩
        case measure => simp [intOf]; omega
      · obtain ⟨hh, hg⟩ := get_yes HTA.out.sorted x.r.ok hy he
        rw [hh]
        have hjM : j < ML := by rw [← HML.out]; exact (List.getElem?_eq_some_iff.1 hy).1
        obtain ⟨g9, o9, cap9, e9, _, _, _⟩ := (show Cells rl wA (.slice aA M.length cA) M from by rw [HML.out]; exact HRA.out.cells).ptr j (by rw [HML.out]; exact hjM)
        rw [HML.out] at e9
        simp at e9
        obtain ⟨rfl, rfl⟩ := e9
        have dr : ∀ u : KW wD, (loadCellsFrom ⟨wB.heap.size, 0, none⟩ 0 n #[]).run Try.prog u.1 = .ok (rc y) u.1 := fun u => by
          have := (show RAt u.1 wB.heap.size (getS M x.r.to) from by
            have h0 := HRD.out.keep u.2
            exact h0).whole HN.out
          rw [hg] at this
          exact this
        have dw : ∀ u : KW wD, (loadCellsFrom ⟨g9, o9 + j * n, none⟩ 0 n #[]).run Try.prog u.1 = .ok (rc y) u.1 := fun u => (show Cells rl u.1 (.slice (some ⟨g9, o9, none⟩) M.length cA) M from by rw [HML.out]; exact HRA.out.cells.keep (HKD.out.trans u.2)).rt HN.out j y hy
        have heq : ∀ w, (Op.equalIn 10000 34 (.agg (rc y)) (.agg (rc y))).run Try.prog w = .ok true w := fun w => by
          rw [show (true : Bool) = decide (y = y) by simp]
          exact eq_rc 9995 y y w
        have hjI : (j : Int) ≥ 0 := by omega
        have hjd : decide ((j : Int) ≥ 0) = true := decide_eq_true hjI
        clear hg hh hy he
        generalize rc y = Y at *
        go_wp2_with fail
        refine wp_region_keep (Keep.refl _) (by kernel_rfl) (by kernel_rfl) ?_
        repeat (first | go_big_quiet_step (fail) | quiet_step (fail))
        first | go_big_quiet_step (exact HLN.out _) | quiet_step (exact HLN.out _)
        repeat (first | go_big_quiet_step (fail) | quiet_step (fail))
        refine wpQuiet_nil ?_
        rintro w6 ⟨⟨w7, b7⟩, hw6⟩
        obtain rfl : w7 = w6 := hw6.symm
        clear hw6
        have HB7 := Lib.hid (HKD.out.trans b7)
        clear b7 dr dw heq
        go_wp2
        go_roundw
        case rel => exact ⟨k + 1, M, by go_num, by omega, HTA.out.keep HB7.out, HRA.out.keep HB7.out, ⟨HB7.out.obj HPA5.out.block, hp⟩, ⟨HB7.out.obj HQA5.out.block, hq⟩, HKK5.out.trans HB7.out⟩
        case measure => simp [intOf]; omega
    · have HTB := Lib.hid tb
      have HRV := Lib.hid rv
      have HKK := Lib.hid hkp
      have HBA := Lib.hid (bet_any tb.sorted hp hq)
      have hfew := tb.few
      have DP := Lib.hid (fun (u : World) (k : Keep wr u) => (show At u w.heap.size p from ⟨k.obj pa.block, hp⟩).whole HN2.out)
      have DQ := Lib.hid (fun (u : World) (k : Keep wr u) => (show At u (w.heap.size + 1) q from ⟨k.obj qa.block, hq⟩).whole HN2.out)
      have HAL := Lib.hid (fun (u : World) (k : Keep wr u) => all _ _ u (Tp.of (tb.keep k)))
      have HBE := Lib.hid (fun (u : World) (k : Keep wr u) => between _ _ p q hp hq u (Tp.of (tb.keep k)))
      have HQB := Lib.hid (fun (u : World) (k : Keep wr u) => qbetween _ m p q hp hq u (rv.keep k) tb.few)
      simp only [HBA.out] at HBE
      clear tb rv hkp pa qa
      generalize pc p = PP at *
      generalize pc q = PQ at *
      have cn0 := DP.out wr.drew (Keep.refl wr).drew
      have cm0 := DQ.out wr.drew (Keep.refl wr).drew
      have cna := DP.out (wr.drewN 1) ((Keep.refl wr).drewN 1)
      have cma := DQ.out (wr.drewN 1) ((Keep.refl wr).drewN 1)
      go_wp2_with fail
      go_region_held3 (fun w' => (loadCellsFrom ⟨w.heap.size, 0, none⟩ 0 n2 #[]).run Try.prog w' = .ok PP w' ∧ (loadCellsFrom ⟨w.heap.size + 1, 0, none⟩ 0 n2 #[]).run Try.prog w' = .ok PQ w') (first | exact ⟨cn0, cm0⟩ | exact ⟨cna, cma⟩ | exact ⟨cn1, cm1⟩ | exact ⟨cn2, cm2⟩ | exact ⟨cn3, cm3⟩ | exact ⟨cn4, cm4⟩ | exact ⟨cn5, cm5⟩) (first | (go_at_call 22; refine (HAL.out _ (by first | exact (Keep.refl wr).drew | exact (Keep.refl wr).drewN 1)).mono ?_; rintro e w11 ⟨v11, rfl, o11, b11⟩; have k11 : Keep wr w11 := Keep.trans (by first | exact (Keep.refl wr).drew | exact (Keep.refl wr).drewN 1) b11; have cn1 := DP.out w11 k11; have cm1 := DQ.out w11 k11) | (go_at_call 21; refine (qsame _ _ (m.filter (inQ p q)) (m.filter (inQ p q)) w14 (r13.keep b14).cells r14.cells (by have := List.length_filter_le (inQ p q) m; omega) (by have := List.length_filter_le (inQ p q) m; omega)).mono ?_; rw [decide_eq_true rfl]; rintro e w15 ⟨rfl, b15⟩; have k15 : Keep wr w15 := k14.trans b15; have cn5 := DP.out w15 k15; have cm5 := DQ.out w15 k15) | (go_at_call 21; refine (qsame _ _ m m w11 (Own.row elR o11).cells (HRV.out.keep k11).cells (by omega) (by omega)).mono ?_; rw [decide_eq_true rfl]; rintro e w12 ⟨rfl, b12⟩; have k12 : Keep wr w12 := k11.trans b12; have cn2 := DP.out w12 k12; have cm2 := DQ.out w12 k12) | (go_at_call 23; refine (HBE.out _ k12).mono ?_; rintro e w13 ⟨v13, rfl, r13, b13⟩; have k13 : Keep wr w13 := k12.trans b13; have cn3 := DP.out w13 k13; have cm3 := DQ.out w13 k13) | (go_at_call 24; refine (HQB.out _ k13).mono ?_; rintro e w14 ⟨v14, rfl, r14, b14⟩; have k14 : Keep wr w14 := k13.trans b14; have cn4 := DP.out w14 k14; have cm4 := DQ.out w14 k14))
      go_wp2
      go_ret
      exact ⟨rfl, HKK.out.trans k15⟩

open Go.ChangeShapes Go.WideShapes Go.ChangeAt

set_option maxRecDepth 100000 in
theorem lifted (os : Os) (started : os.Started) (H : Type) (enc : TypeId × Value → H) :
    ReturnsInHanded {} Try.checked os 3 .any (Rows.tablePlaysSpec.pre6 enc Try.prog Try.f3 Rows.tablePlaysRow.domain false) (Rows.tablePlaysSpec.post enc Try.prog Try.f3 false true false false) := by
  refine returnsInHanded_of_change (C := Try.checked) own started (by kernel_rfl) Try.func3
    (ChangeSpec.witness6 (enc := enc) (C := Try.checked) false ⟨#[], #[.slice none 0 0, .agg (pc zeroP), .agg (pc zeroP)], []⟩ 8 (by kernel_rfl) (by kernel_rfl) (by kernel_rfl) (by kernel_rfl)) ?_
  intro W base args ds gs before hval0 hW hcnd _
  have hval : ∀ (j : Nat) t v, Try.f3.params[j]? = some t → args[j]? = some v → Value.okWide Try.prog W .any base t v := hval0
  have hW' := hW
  obtain ⟨p, q, hA0, hV, rfl, hfz, hnd⟩ := hW
  have hA : DataW.TrodAll enc Try.prog W 0 (fun _ => true) true Try.f3.params.toList args.toList ds p := hA0

  rw [Try.params3] at hA hval
  obtain ⟨v0, vs0, d0, ds0, p0, q0, hargs, rfl, rfl, h0, r0⟩ := trodAll_cons hA
  obtain ⟨v1, vs1, d1, ds1, p1, q1, rfl, rfl, rfl, h1, r1⟩ := trodAll_cons r0
  obtain ⟨v2, vs2, d2, ds2, p2, q2, rfl, rfl, rfl, h2, r2⟩ := trodAll_cons r1
  obtain ⟨rfl, rfl, rfl⟩ := trodAll_nil r2
  obtain rfl : args = #[v0, v1, v2] := by cases args; simp_all
  obtain ⟨rfl, rfl⟩ := trodVars_none hV
  have k0 := h0
  have lt0 : ∀ x ∈ p0, x.block < W.heap.size := by obtain ⟨m, hm⟩ := k0; exact DataW.trod_lt m _ _ _ hm
  have k1 := h1
  have lt1 : ∀ x ∈ p1, x.block < W.heap.size := by obtain ⟨m, hm⟩ := k1; exact DataW.trod_lt m _ _ _ hm
  have k2 := h2
  have lt2 : ∀ x ∈ p2, x.block < W.heap.size := by obtain ⟨m, hm⟩ := k2; exact DataW.trod_lt m _ _ _ hm
  obtain ⟨a0, cap0, l0, rfl, f0⟩ := open_ops (hval 0 22 v0 rfl rfl) h0
  obtain ⟨x1, rfl, f1⟩ := open_prefix (hval 1 25 v1 rfl rfl) h1
  obtain ⟨x2, rfl, f2⟩ := open_prefix (hval 2 25 v2 rfl rfl) h2
  clear hA0 hval0
  refine (walk a0 cap0 l0 x1 x2 W f0 f1 f2).mono fun e W' ⟨he, bel⟩ => ?_
  subst he
  exact ⟨_, rfl, _, _, _, [], _, [], hW', trodAll_mk1 (shut_bool Try.underlying4 _), (trodAll_cons_mk (Below.trod laidOut (by kernel_rfl) (of_decide_eq_true (by kernel_rfl)) k0 bel lt0) (trodAll_cons_mk (Below.trod laidOut (by kernel_rfl) (of_decide_eq_true (by kernel_rfl)) k1 bel lt1) (trodAll_cons_mk (Below.trod laidOut (by kernel_rfl) (of_decide_eq_true (by kernel_rfl)) k2 bel lt2) trodAll_mk0))), rfl, bel.frame _, fun h => by cases h⟩

theorem over : Rows.tablePlaysRow.holds Try.pinned (OpenSpec.ofChange Rows.tablePlaysSpec) :=
  OpenClaim.holds_of_wide 3 Try.f3 rfl rfl rfl rfl rfl rfl rfl ⟨rfl, rfl, rfl, rfl, rfl⟩ rfl rfl rfl rfl rfl (by kernel_rfl) Try.func3 (by kernel_rfl)
    (of_decide_eq_true (by kernel_rfl)) (by unfold Func.isWrapper; first | (rw [if_pos (by decide +kernel)]; kernel_rfl) | (rw [if_neg (by decide +kernel)]; exact ⟨rfl, rfl⟩))
    (fun os started H enc _ => lifted os started H enc)
end Go.Proofs.Ytgocmolebanflaa.LTablePlays

namespace Go.Proofs.Ytgocmolebanflaa
theorem tablePlays_holds : Rows.TablePlaysSaid := LTablePlays.over
#print axioms tablePlays_holds
end Go.Proofs.Ytgocmolebanflaa

