/- Proved: for every two ints, every list of texts and every list of calls the law SenderPlays returns true (in every order of ticks and acks what is sent, refused, and lost, is the document's), and its arguments read behind the call as they read before. Condition, by the row's own list: math/bits.deBruijn64tab starts as the program's text lays it (the card ties that). -/
import Derived.Test.YtcnaaoakcmdfkaaDoorRf
import Derived.Deep.RegionHeld3
import Derived.Deep.CutRange
import Derived.Deep.CutBlock
namespace Go.Proofs.YtcnaaoakcmdfkaaDoor.LSenderPlays
open Go.RowKit

def zeroO : List Value := .int .i64 0 :: fl zeroF
theorem infoO : (Tryd.prog.info? 36).map (fun i => (i.zero, i.size)) = some (some (.agg zeroO.toArray), 7) := by kernel_rfl
def oc (x : Oq) : Array Value := (ol x).toArray
theorem oc_size (x : Oq) : (oc x).size = 7 := rfl
theorem oc_one (x : Oq) : ∀ v ∈ (oc x).toList, v.oneCell' = true := by
  intro v hv
  simp only [oc, ol, List.mem_cons] at hv
  rcases hv with rfl | hv
  · rfl
  · exact fc_one x.x.f v (by simpa [fc] using hv)
/-- A call lies in block b. -/
def OAt (w : World) (b : Nat) (x : Oq) : Prop := w.heap[b]? = some (.cells (oc x) 36 (0, 0))
theorem OAt.kind {w : World} {b : Nat} {x : Oq} (h : OAt w b x) : w.cell? ⟨b, 0, none⟩ = some (.int .i64 x.kind) := cell_obj h rfl
theorem OAt.data {w : World} {b : Nat} {x : Oq} (h : OAt w b x) : w.cell? ⟨b, 6, none⟩ = some (.string ⟨x.x.f.data.toArray⟩) := cell_obj h rfl
theorem OAt.frame {w : World} {b n : Nat} {x : Oq} (h : OAt w b x) (hn : n = 6) : (loadCellsFrom ⟨b, 1, none⟩ 0 n #[]).run Tryd.prog w = .ok (fc x.x.f) w := by
  have := load_part (P := Tryd.prog) (o := 1) (n := n) (fl x.x.f) (by rw [hn]; rfl) h (fun j v hv => by
    unfold oc ol
    rw [List.getElem?_toArray, Nat.add_comm, List.getElem?_cons_succ]
    exact hv)
  exact this
theorem OAt.store {w : World} {b : Nat} {z : List Value} (hz : z.length = 7) (h : w.heap[b]? = some (.cells z.toArray 36 (0, 0))) (x : Oq) : (storeCells ⟨b, 0, none⟩ (oc x).toList).run Tryd.prog w = .ok () (w.setRow b (oc x)) := by
  have hsc := run_storeCells_from (P := Tryd.prog) b 36 (oc x).toList 0 z.toArray w h (by simp [hz, oc, ol_len]) (oc_one x)
  rw [List.take_zero, List.nil_append, Array.toArray_toList] at hsc
  exact hsc
theorem whole_ol {w : World} {g o cap n : Nat} {l : List Oq} (h : Cells ol w (.slice (some ⟨g, o, none⟩) l.length cap) l) (hn : n = 7) (j : Nat) (x : Oq) (hx : l[j]? = some x) : (loadCellsFrom ⟨g, o + j * n, none⟩ 0 n #[]).run Tryd.prog w = .ok (oc x) w := by
  have := Cells.load (P := Tryd.prog) ol_len h j x hx 0 7 (ol x) (by simp [ol, fl]) (by omega) hn
  rw [Nat.add_zero, ← hn] at this
  exact this

def PlRel (b bm bc g bt ba : Nat) (a : Option Addr) (cap n m : Nat) (W : World) (iv0 : Value) (wr : World) : Prop :=
  ∃ (k : Nat) (s : Sd) (iv : Value), iv0 = .int .i64 k ∧ k ≤ m ∧ S wr b bm bc s ∧ R wr g bt ba a cap iv s ∧ s.ch.length = n ∧ s.now ≤ k ∧ (∀ x, iv.ownBlock = some x → x ≠ b ∧ x ≠ bm ∧ x ≠ bc) ∧ Turn [b, bm, bc, g, bt, ba] W wr
def FxRel (m : Nat) (W : World) (iv : Value) (wr : World) : Prop := ∃ j : Nat, iv = .int .i64 j ∧ j ≤ m ∧ Keep W wr
set_option maxRecDepth 100000 in
set_option maxHeartbeats 8000000 in
theorem walk (x y : Int) (a : Option Addr) (cap : Nat) (L : List (List UInt8)) (a1 : Option Addr) (cap1 : Nat) (A : List Oq) (w : World) (_hx : -9223372036854775808 ≤ x ∧ x ≤ 9223372036854775807) (_hy : -9223372036854775808 ≤ y ∧ y ≤ 9223372036854775807) (h : ArgN se w a cap L) (h1 : ArgL ol w a1 cap1 A) (ht : Tab w) :
    Calls Tryd.prog 3 #[.int .i64 x, .int .i64 y, .slice a L.length cap, .slice a1 A.length cap1] w fun e w' => e = .returned (.bool true) ∧ Keep w w' := by
  have HA := Lib.hid h
  have HA1 := Lib.hid h1
  obtain ⟨MA, hM⟩ : ∃ MA, A.length = MA := ⟨_, rfl⟩
  have HMM := Lib.hid hM
  rw [hM]
  clear hM
  have HT := Lib.hid ht
  have HF := Lib.hid (fun v (k : Keep w v) => qfew a cap L v (h.toArgL.keep k))
  have HM := Lib.hid (fun v (k : Keep w v) => qmay x y a cap L v (h.toArgL.keep k))
  obtain ⟨N, hN⟩ : ∃ N, L.length = N := ⟨_, rfl⟩
  have HN := Lib.hid hN
  rw [hN] at HF HM ⊢
  by_cases hf : fewP L
  rotate_left
  · rw [decide_eq_false hf] at HF
    clear hf h h1 ht hN HM
    go_enter Tryd.func3, Tryd.ntmps3
    go_wp2_with fail
    refine (awake w HT.out).mono ?_
    rintro e v1 ⟨rfl, k1⟩
    go_wp2_with fail
    refine (HF.out v1 k1).mono ?_
    rintro e v2 ⟨rfl, rfl⟩
    go_wp2_with fail
    refine (awake v2 (HT.out.keep k1)).mono ?_
    rintro e v3 ⟨rfl, k3⟩
    go_wp2
    go_ret
    exact ⟨rfl, k1.trans k3⟩
  rw [decide_eq_true hf] at HF
  have hn3 : N ≤ 300 := by rw [← hN]; exact hf.2
  by_cases hlong : MA ≤ 200
  rotate_left
  · have hgt : (MA : Int) > 200 := by omega
    clear hf h h1 ht hN HM hlong
    go_enter Tryd.func3, Tryd.ntmps3
    go_wp2_with fail
    refine (awake w HT.out).mono ?_
    rintro e v1 ⟨rfl, k1⟩
    go_wp2_with fail
    refine (HF.out v1 k1).mono ?_
    rintro e v2 ⟨rfl, rfl⟩
    go_wp2_with fail
    refine (awake v2 (HT.out.keep k1)).mono ?_
    rintro e v3 ⟨rfl, k3⟩
    go_wp2
    go_ret
    exact ⟨rfl, k1.trans k3⟩
  have hgt : ¬ (MA : Int) > 200 := by omega
  clear hf h h1 ht hN
  go_enter Tryd.func3, Tryd.ntmps3
  go_wp2_with fail
  refine (awake w HT.out).mono ?_
  rintro e v1 ⟨rfl, k1⟩
  go_wp2_with fail
  refine (HF.out v1 k1).mono ?_
  rintro e v2 ⟨rfl, rfl⟩
  have HK1 := Lib.hid k1
  clear k1 HF
  go_wp2_with (at_builtin; refine wp_appN elS rfl _ _ rfl v2.heap.size _ a N cap [] L rfl HN.out rfl (Own.made v2.heap.size v2 (Nat.le_refl _)) (HA.out.keep (HK1.out.trans ((Keep.refl v2).alloc _))) ?q1 ?q2 ?q3 ?_)
  case q1 => rw [HN.out]; simp; omega
  case q2 => rw [HN.out]; simp; omega
  case q3 => simp
  intro cv v3 hO hG
  have HO := Lib.hid hO
  have HK3 := Lib.hid (HK1.out.trans (show Keep v2 v3 from (Own.made (t := 9) (k := 1) (enc := se) v2.heap.size v2 (Nat.le_refl _)).grown ((Keep.refl v2).alloc _) (Nat.le_refl _) hG))
  clear hO hG
  go_wp2_with fail
  refine (snew_at x y cv L v3 (HT.out.keep HK3.out) (OwnS.cells HO.out) (by rw [HN.out]; omega)).mono ?_
  rintro e v4 (⟨hmay, b, bm, bc, rfl, s0, g1, g2, g3, k4⟩ | ⟨hmay, rfl, k4⟩)
  rotate_left
  · rw [decide_eq_false hmay] at HM
    have HK4 := Lib.hid (HK3.out.trans k4)
    clear hmay k4
    go_wp2_with fail
    refine (HM.out v4 HK4.out).mono ?_
    rintro e v5 ⟨rfl, rfl⟩
    go_wp2
    go_ret
    exact ⟨rfl, HK4.out⟩
  rw [decide_eq_true hmay] at HM
  have hn1 : 1 ≤ N := by rw [← HN.out]; exact hmay.2.2.2.1
  have hn2 : N ≤ 256 := by rw [← HN.out]; exact hmay.2.2.2.2
  have HS := Lib.hid s0
  have HK4 := Lib.hid (HK3.out.trans k4)
  have hz := HK3.out.size
  have HG := Lib.hid (show w.heap.size ≤ b ∧ w.heap.size ≤ bm ∧ w.heap.size ≤ bc from ⟨by omega, by omega, by omega⟩)
  clear s0 g1 g2 g3 k4 hz hmay
  go_wp2_with fail
  refine (HM.out v4 HK4.out).mono ?_
  rintro e v5 ⟨rfl, rfl⟩
  have hNew := qnew_at x y a cap L v5 (by rw [HN.out]; exact hn2) (by rw [HN.out]; exact hn1) ((HA.out.cells (fun e => by have := HN.out; rw [e] at this; simp at this; omega)).keep HK4.out)
  rw [HN.out] at hNew
  have HNew := Lib.hid hNew
  clear hNew HM
  go_wp2_with fail
  refine HNew.out.mono ?_
  rintro e v6 ⟨g, bt, ba, iv0, rfl, r0, g4, g5, g6, g7, k6⟩
  have HR := Lib.hid r0
  have hb1 := HS.out.lt
  have hb2 := HS.out.map.lt
  have hb3 := HS.out.ltc
  have HS6 := Lib.hid (HS.out.keep k6)
  have HK6 := Lib.hid (HK4.out.trans k6)
  have hw4 := HK4.out.size
  have HBL := Lib.hid (show b < v5.heap.size ∧ bm < v5.heap.size ∧ bc < v5.heap.size ∧ v5.heap.size ≤ g ∧ v5.heap.size ≤ bt ∧ v5.heap.size ≤ ba ∧ w.heap.size ≤ v5.heap.size from ⟨hb1, hb2, hb3, g4, g5, g6, hw4⟩)
  have HIV := Lib.hid (fun x (h : iv0.ownBlock = some x) => (show x ≠ b ∧ x ≠ bm ∧ x ≠ bc by have := g7 x h; exact ⟨by omega, by omega, by omega⟩))
  have HTX := Lib.hid (fun x (h : (Value.slice a N cap).ownBlock = some x) => (show x < w.heap.size from by
    have hc := HA.out.cells (fun e => by have := HN.out; rw [e] at this; simp at this; omega)
    rw [HN.out] at hc
    exact hc.lt h))
  have hch : (newS x y L).ch.length = N := by rw [← HN.out]; simp [newS]
  clear r0 g4 g5 g6 g7 k6 HNew hb1 hb2 hb3 hw4 HS
  obtain ⟨n, hn⟩ : ∃ n, n = 6 := ⟨6, rfl⟩
  have hsz : ∀ w, (Go.sizeOf 34).run Tryd.prog w = .ok n w := fun w => by rw [hn]; exact Tryd.sizeOf34 w
  have hn0 : ¬ n = 0 := by omega
  obtain ⟨n7, hn7⟩ : ∃ n, n = 7 := ⟨7, rfl⟩
  have hsz7 : ∀ w, (Go.sizeOf 36).run Tryd.prog w = .ok n7 w := fun w => by rw [hn7]; exact Tryd.sizeOf36 w
  have hn70 : ¬ n7 = 0 := by omega
  obtain ⟨hz, _⟩ := zero_of_info infoO
  have HN6 := Lib.hid hn
  have HN7 := Lib.hid hn7
  clear hn hn7
  go_wp2_with fail
  go_loopw [64] (fun iv wr => PlRel b bm bc g bt ba a cap N MA v6 iv wr) (fun i _ => 210 - (intOf i).toNat)
  case atStart => exact ⟨0, _, _, rfl, Nat.zero_le _, HS6.out, HR.out, hch, Nat.le_refl _, HIV.out, Turn.refl _ _⟩
  case round =>
    obtain ⟨k, s, iv, rfl, hk, hS, hR, hcl, hnow, hiv, hT⟩ := hrel
    have HS1 := Lib.hid hS
    have HR1 := Lib.hid hR
    have HCL := Lib.hid hcl
    have HNow := Lib.hid hnow
    have HI1 := Lib.hid hiv
    have HT1 := Lib.hid hT
    have hmade := fun v (q : Turn [b, bm, bc, g, bt, ba] v6 v) => Turn.made HK6.out q (by have h1 := HG.out; have h2 := HBL.out; simp; omega)
    have HMade := Lib.hid hmade
    clear hS hR hcl hnow hiv hT hch hmade HS6 HR HIV
    by_cases hlt : k < MA
    rotate_left
    · obtain rfl : k = MA := by omega
      go_wp2
      go_ret
      exact ⟨rfl, HMade.out _ HT1.out⟩
    obtain ⟨o, ho⟩ : ∃ o, A[k]? = some o := ⟨_, List.getElem?_eq_getElem (by rw [HMM.out]; exact hlt)⟩
    have hc := HA1.out.cells (fun e => by have := HMM.out; rw [e] at this; simp at this; omega)
    obtain ⟨go1, oo1, cap', hv, _, _, _⟩ := hc.ptr k (by rw [HMM.out]; exact hlt)
    injection hv with e1 e2 e3
    subst e1 e3
    have hl7 := whole_ol (hc.keep (HMade.out _ HT1.out)) HN7.out k o ho
    have hst := OAt.store (z := zeroO) rfl (heap_alloc_last wr (.cells zeroO.toArray 36)) o
    have hO : OAt ((wr.alloc (.cells zeroO.toArray 36)).setRow wr.heap.size (oc o)) wr.heap.size o := block_row (heap_alloc_last wr (.cells zeroO.toArray 36)) _
    have hzs : (oc o).size = n7 := by rw [HN7.out]; rfl
    have hKo : Keep wr ((wr.alloc (.cells zeroO.toArray 36)).setRow wr.heap.size (oc o)) := ((Keep.refl wr).alloc _).setRow _ _ (Nat.le_refl _)
    have c0 := hO.kind
    have c6 := hO.data
    have HO1 := Lib.hid hO
    have HKo := Lib.hid hKo
    have hq := o.x.q
    obtain ⟨f, hfr⟩ : ∃ f, o.x.f = f := ⟨_, rfl⟩
    have HFR := Lib.hid hfr
    rw [hfr] at c6 hq
    clear hc e2 ho hO hKo hfr
    generalize oc o = OC at *
    generalize zeroO.toArray = Z at *
    generalize o.kind = kd at *
    by_cases hd : f.data.length ≤ 100
    rotate_left
    · have hdg : (f.data.length : Int) > 100 := by omega
      clear hd
      go_wp2
      go_ret
      exact ⟨rfl, (HMade.out _ HT1.out).trans HKo.out⟩
    have hdg : ¬ (f.data.length : Int) > 100 := by omega
    have hd2 : f.data.length ≤ 1000000 := by omega
    clear hd
    generalize hwo : (wr.alloc (.cells Z 36)).setRow wr.heap.size OC = wo at *
    have HWO := Lib.hid hwo
    clear hwo
    by_cases hk1 : kd = 1
    · have hkb : (kd == 1) = true := by simp [hk1]
      have hkn : ¬ kd ≠ 1 := fun q => q hk1
      clear hk1
      have hbl := HBL.out
      have hg := HG.out
      have HTick := Lib.hid (tick_at (HS1.out.keep HKo.out) (by have := HNow.out; omega))
      go_wp2_with fail
      refine HTick.out.mono ?_
      rintro e v8 ⟨lv, rfl, o8, s8, t8⟩
      have hwz := HKo.out.size
      have hrl := HR1.out.lt
      have hrt := HR1.out.ltt
      have hra := HR1.out.lta
      have HR8 := Lib.hid ((HR1.out.keep HKo.out).turn t8 (by simp; omega) (by simp; omega) (by simp; omega) (fun z hz => by have := HI1.out z hz; simp; omega) (fun z hz => by rw [HCL.out] at hz; have := HTX.out z hz; simp; omega))
      have HS8 := Lib.hid s8
      have HO8 := Lib.hid o8
      have HT8 := Lib.hid (((HT1.out.thenKeep HKo.out).trans (t8.mono (by simp) : Turn [b, bm, bc, g, bt, ba] wo v8)))
      have HQTick := Lib.hid (qtick_at HR8.out (by have := HNow.out; omega))
      clear o8 s8 t8 HTick
      go_wp2_with fail
      refine HQTick.out.mono ?_
      rintro e v9 ⟨mv, rfl, o9, r9, t9⟩
      have hm8 := HS8.out.map.pos
      have HS9 := Lib.hid (HS8.out.turn t9 (by simp; omega) (by simp; omega) (by simp; omega) (by simp; omega))
      have HR9 := Lib.hid r9
      have HT9 := Lib.hid (HT8.out.trans (t9.mono (by simp) : Turn [b, bm, bc, g, bt, ba] v8 v9))
      have HSF := Lib.hid (qsameF lv mv s.tickF v9 (OwnF.cells (HO8.out.turn t9 (by simp; omega))) (OwnF.cells o9) (by have := tickF_len s; have := HS1.out.map.few; omega))
      clear o9 r9 t9 HQTick HO8
      go_wp2_with fail
      refine HSF.out.mono ?_
      rintro e wc ⟨rfl, k10⟩
      have HS2 := Lib.hid (HS9.out.keep k10)
      have HR2 := Lib.hid (HR9.out.keep k10)
      have HT2 := Lib.hid (HT9.out.thenKeep k10)
      have HNow2 := Lib.hid (show s.tick.now ≤ k + 1 by have := tick_now s; have := HNow.out; omega)
      have HCL2 := Lib.hid (show s.tick.ch.length = N by rw [(tick_ses s).2.2.2]; exact HCL.out)
      have HI2 := Lib.hid HI1.out
      clear k10 HSF HS8 HR8 HS9 HR9 HT8 HT9 c0 c6
      generalize s.tick = s2 at *
      obtain ⟨gi, oi, icap, hiv2, _⟩ := HR2.out.there
      rw [HCL2.out] at hiv2
      subst hiv2
      have HErr : Hid (∀ w1, Keep wc w1 → Calls Tryd.prog 19 #[.pointer (some ⟨b, 0, none⟩)] w1 fun e w' => e = .returned (.int .i64 (s2.err : Nat)) ∧ Keep w1 w') := Lib.hid fun w1 q => err_at (HS2.out.keep q)
      have HQErr : Hid (∀ w1, Keep wc w1 → Calls Tryd.prog 20 #[.pointer (some ⟨g, 0, none⟩)] w1 fun e w' => e = .returned (.int .i64 (s2.err : Nat)) ∧ Keep w1 w') := Lib.hid fun w1 q => qerr_at (HR2.out.keep q)
      have HDone : Hid (∀ w1, Keep wc w1 → Calls Tryd.prog 21 #[.pointer (some ⟨b, 0, none⟩)] w1 fun e w' => e = .returned (.bool (decide s2.full)) ∧ Keep w1 w') := Lib.hid fun w1 q => done_at (HS2.out.keep q)
      have hl256 : s2.l.length ≤ 256 := HS2.out.map.few
      have hlN : s2.l.length = N := by rw [HS2.out.good.len]; exact HCL2.out
      have HBase : Hid (∀ w1, Keep wc w1 → Calls Tryd.prog 22 #[.slice (some ⟨gi, oi, none⟩) N icap] w1 fun e w' => e = .returned (.int .i64 (baseN s2.l : Nat)) ∧ Keep w1 w') := Lib.hid fun w1 q => by
        refine (qbase _ s2.l w1 (HR2.out.keep q).inn hl256).mono ?_
        rintro e w2 ⟨rfl, rfl⟩
        exact ⟨rfl, Keep.refl _⟩
      have HQCnt : Hid (∀ w1, Keep wc w1 → Calls Tryd.prog 25 #[.slice (some ⟨gi, oi, none⟩) N icap] w1 fun e w' => e = .returned (.int .i64 (cntN s2.l : Nat)) ∧ Keep w1 w') := Lib.hid fun w1 q => by
        refine (qcount _ s2.l w1 (HR2.out.keep q).inn hl256).mono ?_
        rintro e w2 ⟨rfl, rfl⟩
        exact ⟨rfl, Keep.refl _⟩
      have HThere : Hid (∀ w1, Keep wc w1 → Calls Tryd.prog 23 #[.pointer (some ⟨b, 0, none⟩)] w1 fun e w' => ∃ c, e = .returned (.pointer (some ⟨c, 0, none⟩)) ∧ w1.heap.size ≤ c ∧ M w' c s2.l ∧ Keep w1 w') := Lib.hid fun w1 q => there_at (HS2.out.keep q)
      have HCnt : Hid (∀ w1 c, M w1 c s2.l → Calls Tryd.prog 24 #[.pointer (some ⟨c, 0, none⟩)] w1 fun e w' => e = .returned (.int .i64 (cntN s2.l : Nat)) ∧ Keep w1 w') := Lib.hid fun w1 c m => by
        refine (count_at c s2.l w1 m).mono ?_
        rintro e w2 ⟨rfl, rfl⟩
        exact ⟨rfl, Keep.refl _⟩
      have HC : Hid (∀ w1, Keep wc w1 → w1.cell? ⟨g, 3, none⟩ = some (.slice (some ⟨gi, oi, none⟩) N icap)) := Lib.hid fun w1 q => (HR2.out.keep q).i
      have hfull : ((baseN s2.l : Int) == (N : Int)) = decide s2.full := by
        have e : s2.full ↔ baseN s2.l = N := by unfold Sd.full; rw [hlN]
        by_cases hfu : s2.full
        · rw [decide_eq_true hfu, e.1 hfu]; simp
        · rw [decide_eq_false hfu]
          have hB : ¬ baseN s2.l = N := fun q => hfu (e.2 q)
          simpa using (by omega : ¬ (baseN s2.l : Int) = (N : Int))
      have HHas : Hid (∀ w1 c (j : Nat), M w1 c s2.l → Calls Tryd.prog 27 #[.pointer (some ⟨c, 0, none⟩), .int .i64 (j : Nat)] w1 fun e w' => e = .returned (.bool (s2.l.getD j false)) ∧ Keep w1 w') := Lib.hid fun w1 c j m => by
        have := has_at c s2.l (j : Nat) w1 m
        rw [hasB_nat] at this
        exact this
      generalize decide s2.full = F at *
      generalize baseN s2.l = B at *
      generalize cntN s2.l = CN at *
      generalize s2.err = ER at *
      have e2 : ((ER : Int) != (ER : Int)) = false := by simp
      have e3 : ((CN : Int) != (CN : Int)) = false := by simp
      have e4 : (F != F) = false := by cases F <;> rfl
      have e5 : (!(F == F)) = false := by cases F <;> rfl
      have cn0 := HC.out wc.drew (Keep.refl wc).drew
      have cna := HC.out (wc.drewN 1) ((Keep.refl wc).drewN 1)
      clear hl256 hlN
      go_upto_region 21 with fail
      go_region_held3 (fun w' => w'.cell? ⟨g, 3, none⟩ = some (.slice (some ⟨gi, oi, none⟩) N icap)) (first | exact HC.out _ k7 | exact HC.out _ k6 | exact HC.out _ k5 | exact HC.out _ k4 | exact HC.out _ k3 | exact HC.out _ k2 | exact HC.out _ k1 | exact HC.out _ (Keep.refl wc).drew | exact HC.out _ ((Keep.refl wc).drewN 1) | exact HC.out _ (Keep.refl wc)) (first | (go_at_call 19; refine (HErr.out _ (by first | exact (Keep.refl wc).drew | exact (Keep.refl wc).drewN 1 | exact Keep.refl wc)).mono ?_; rintro e v1 ⟨rfl, q1⟩; have k1 : Keep wc v1 := Keep.trans (by first | exact (Keep.refl wc).drew | exact (Keep.refl wc).drewN 1 | exact Keep.refl wc) q1) | (go_at_call 20; refine (HQErr.out _ k1).mono ?_; rintro e v2 ⟨rfl, q2⟩; have k2 : Keep wc v2 := Keep.trans k1 q2) | (go_at_call 21; refine (HDone.out _ k2).mono ?_; rintro e v3 ⟨rfl, q3⟩; have k3 : Keep wc v3 := Keep.trans k2 q3) | (go_at_call 22; refine (HBase.out _ k3).mono ?_; rintro e v4 ⟨rfl, q4⟩; have k4 : Keep wc v4 := Keep.trans k3 q4) | (go_at_call 23; refine (HThere.out _ k4).mono ?_; rintro e v5 ⟨c5, rfl, hc5, m5, q5⟩; have k5 : Keep wc v5 := Keep.trans k4 q5) | (go_at_call 24; refine (HCnt.out _ c5 m5).mono ?_; rintro e v6 ⟨rfl, q6⟩; have k6 : Keep wc v6 := Keep.trans k5 q6) | (go_at_call 25; refine (HQCnt.out _ k6).mono ?_; rintro e v7 ⟨rfl, q7⟩; have k7 : Keep wc v7 := Keep.trans k6 q7))
      have HK7 := Lib.hid k7
      clear k1 k2 k3 k4 k5 k6 k7 q1 q2 q3 q4 q5 q6 q7 m5 hc5 cn0 cna HErr HQErr HDone HBase HQCnt HCnt HC hfull e2 e3 e4 e5
      go_wp2_with fail
      generalize wr = wj at *
      go_loopw [135] (fun iv wr => FxRel N v7 iv wr) (fun i _ => 300 - (intOf i).toNat)
      case atStart => exact ⟨0, rfl, Nat.zero_le _, Keep.refl _⟩
      case round =>
        obtain ⟨j, rfl, hj, hK⟩ := hrel
        have HKj := Lib.hid (HK7.out.trans hK)
        have HKi := Lib.hid hK
        clear hK
        by_cases hjN : j < N
        · have hjc : j < s2.ch.length := by rw [HCL2.out]; exact hjN
          have HSj := Lib.hid (HS2.out.keep HKj.out)
          have HRj := Lib.hid (HR2.out.keep HKj.out)
          obtain ⟨T, hT⟩ : ∃ T, (s2.at j).tries = T := ⟨_, rfl⟩
          have hT2 : s2.tries (j : Nat) = T := by unfold Sd.tries; rw [if_pos (by omega), Int.toNat_natCast]; exact hT
          have HTr : Hid (∀ w1, Keep wr w1 → Calls Tryd.prog 26 #[.pointer (some ⟨b, 0, none⟩), .int .i64 (j : Nat)] w1 fun e w' => e = .returned (.int .i64 (T : Nat)) ∧ Keep w1 w') := Lib.hid fun w1 q => by
            refine (tries_at (j : Nat) (HSj.out.keep q)).mono ?_
            rintro e w2 ⟨rfl, rfl⟩
            rw [hT2]
            exact ⟨rfl, Keep.refl _⟩
          have HTh : Hid (∀ w1, Keep wr w1 → Calls Tryd.prog 23 #[.pointer (some ⟨b, 0, none⟩)] w1 fun e w' => ∃ c, e = .returned (.pointer (some ⟨c, 0, none⟩)) ∧ w1.heap.size ≤ c ∧ M w' c s2.l ∧ Keep w1 w') := Lib.hid fun w1 q => there_at (HSj.out.keep q)
          have HC : Hid (∀ w1, Keep wr w1 → w1.cell? ⟨g, 4, none⟩ = some (.slice (some ⟨bt, 0, none⟩) N N) ∧ w1.cell? ⟨bt, j, none⟩ = some (.int .i64 (T : Nat)) ∧ w1.cell? ⟨g, 3, none⟩ = some (.slice (some ⟨gi, oi, none⟩) N icap) ∧ w1.cell? ⟨gi, oi + j, none⟩ = some (.bool (s2.l.getD j false))) := Lib.hid fun w1 q => ⟨by rw [(HRj.out.keep q).t, HCL2.out], by rw [(HRj.out.keep q).tries j hjc, hT], (HRj.out.keep q).i, (HRj.out.keep q).bit j hjc⟩
          have HHj := Lib.hid (fun w1 c (m : M w1 c s2.l) => HHas.out w1 c j m)
          generalize s2.l.getD j false = X at *
          have e2 : ((T : Int) != (T : Int)) = false := by simp
          have e3 : (X != X) = false := by cases X <;> rfl
          have cn0 := HC.out wr.drew (Keep.refl wr).drew
          have cna := HC.out (wr.drewN 1) ((Keep.refl wr).drewN 1)
          clear hT hT2 hjc
          go_upto_region 26 with fail
          go_region_held3 (fun w' => w'.cell? ⟨g, 4, none⟩ = some (.slice (some ⟨bt, 0, none⟩) N N) ∧ w'.cell? ⟨bt, j, none⟩ = some (.int .i64 (T : Nat)) ∧ w'.cell? ⟨g, 3, none⟩ = some (.slice (some ⟨gi, oi, none⟩) N icap) ∧ w'.cell? ⟨gi, oi + j, none⟩ = some (.bool X)) (first | exact HC.out _ k3 | exact HC.out _ k2 | exact HC.out _ k1 | exact HC.out _ (Keep.refl wr).drew | exact HC.out _ ((Keep.refl wr).drewN 1) | exact HC.out _ (Keep.refl wr)) (first | (go_at_call 26; refine (HTr.out _ (by first | exact (Keep.refl wr).drew | exact (Keep.refl wr).drewN 1 | exact Keep.refl wr)).mono ?_; rintro e v1 ⟨rfl, q1⟩; have k1 : Keep wr v1 := Keep.trans (by first | exact (Keep.refl wr).drew | exact (Keep.refl wr).drewN 1 | exact Keep.refl wr) q1) | (go_at_call 23; refine (HTh.out _ k1).mono ?_; rintro e v2 ⟨c5, rfl, hc5, m5, q2⟩; have k2 : Keep wr v2 := Keep.trans k1 q2) | (go_at_call 27; refine (HHj.out _ c5 m5).mono ?_; rintro e v3 ⟨rfl, q3⟩; have k3 : Keep wr v3 := Keep.trans k2 q3))
          have HKe := Lib.hid (HKi.out.trans k3)
          clear k1 k2 k3 q1 q2 q3 m5 hc5 cn0 cna HTr HTh HC HHj e2 e3
          go_wp2
          go_roundw
          case rel => exact ⟨j + 1, by go_num, by omega, HKe.out⟩
          case measure => simp [intOf]; omega
        · obtain rfl : j = N := by omega
          have HSj := Lib.hid (HS2.out.keep HKj.out)
          have HRj := Lib.hid (HR2.out.keep HKj.out)
          go_wp2
          go_roundw
          case rel => exact ⟨k + 1, s2, _, by go_num, by omega, HSj.out, HRj.out, HCL2.out, HNow2.out, HI2.out, HT2.out.thenKeep HKj.out⟩
          case measure => simp [intOf]; omega
    · have hkb : (kd == 1) = false := by simpa using hk1
      clear hk1
      have hbl := HBL.out
      have hg := HG.out
      have hwz := HKo.out.size
      have hrl := HR1.out.lt
      have hrt := HR1.out.ltt
      have hra := HR1.out.lta
      have hsm := HS1.out.map.lt
      have hsm0 := HS1.out.map.pos
      have HAck := Lib.hid (fun v (q : Keep wo v) => ack_at f ((HS1.out.keep HKo.out).keep q) hq.idx.1 hq.idx.2 hd2)
      have HQAck := Lib.hid (fun v (q : Turn [bm] wo v) => qack_at f ((HR1.out.keep HKo.out).turn q (by simp; omega) (by simp; omega) (by simp; omega) (fun z hz => by have := HI1.out z hz; simp; omega) (fun z hz => by rw [HCL.out] at hz; have := HTX.out z hz; simp; omega)) hq.idx.1 hq.idx.2 hd2)
      have HLd := Lib.hid (fun v (q : Turn [bm, g] wo v) => (show (loadCellsFrom ⟨wr.heap.size, 1, none⟩ 0 n #[]).run Tryd.prog v = .ok (fc f) v from by
        have h0 : OAt v wr.heap.size o := q.obj HO1.out (by simp; omega)
        have h1 := h0.frame HN6.out
        rw [HFR.out] at h1
        exact h1))
      have cn0 := HLd.out wo.drew (Turn.refl _ wo).drew
      have cna := HLd.out (wo.drewN 1) (Turn.keep _ ((Keep.refl wo).drewN 1))
      have HEE : Hid (s.ackE f = s.ackE f) := Lib.hid rfl
      obtain ⟨E, hE⟩ : ∃ E, s.ackE f = E := ⟨_, rfl⟩
      rw [hE] at HAck HQAck
      have e2 : ((E : Int) != (E : Int)) = false := by simp
      clear hE HEE
      go_upto_region 19 with fail
      go_region_held3 (fun w' => (loadCellsFrom ⟨wr.heap.size, 1, none⟩ 0 n #[]).run Tryd.prog w' = .ok (fc f) w') (first | exact HLd.out _ k2 | exact HLd.out _ k1 | exact HLd.out _ (Turn.refl _ wo).drew | exact HLd.out _ (Turn.keep _ ((Keep.refl wo).drewN 1)) | exact HLd.out _ (Turn.refl _ wo)) (first | (go_at_call 17; refine (HAck.out _ (by first | exact (Keep.refl wo).drew | exact (Keep.refl wo).drewN 1 | exact Keep.refl wo)).mono ?_; rintro e v1 ⟨rfl, s1, t1⟩; have k0 : Turn [bm] wo v1 := (Turn.ofKeep (by first | exact (Keep.refl wo).drew | exact (Keep.refl wo).drewN 1 | exact Keep.refl wo) t1); have k1 : Turn [bm, g] wo v1 := k0.mono (by simp)) | (go_at_call 18; refine (HQAck.out _ k0).mono ?_; rintro e wc ⟨iv2, rfl, r2, x2, t2⟩; have k2 : Turn [bm, g] wo wc := k1.trans (t2.mono (by simp))))
      have HS2 := Lib.hid (s1.turn t2 (by simp; omega) (by simp; omega) (by simp; omega) (by simp; omega))
      have HR2 := Lib.hid r2
      have HT2 := Lib.hid ((HT1.out.thenKeep HKo.out).trans (k2.mono (by simp) : Turn [b, bm, bc, g, bt, ba] wo wc))
      have HNow2 := Lib.hid (show (s.ack f).now ≤ k + 1 by rw [ack_now]; exact Nat.le_succ_of_le HNow.out)
      have HCL2 := Lib.hid (show (s.ack f).ch.length = N by rw [(ack_ses s f).2.2.1]; exact HCL.out)
      have hk0z := k0.size
      have hbw := HS1.out.lt
      have hcw := HS1.out.ltc
      have HI2 := Lib.hid (fun z (hz : iv2.ownBlock = some z) => (show z ≠ b ∧ z ≠ bm ∧ z ≠ bc by
        rcases x2 z hz with q | q
        · exact HI1.out z q
        · exact ⟨by omega, by omega, by omega⟩))
      clear k0 k1 k2 s1 t1 r2 x2 t2 cn0 cna e2 HAck HQAck HLd c0 c6 hk0z hbw hcw
      generalize s.ack f = s2 at *
      obtain ⟨gi, oi, icap, hiv2, _⟩ := HR2.out.there
      rw [HCL2.out] at hiv2
      subst hiv2
      have HErr : Hid (∀ w1, Keep wc w1 → Calls Tryd.prog 19 #[.pointer (some ⟨b, 0, none⟩)] w1 fun e w' => e = .returned (.int .i64 (s2.err : Nat)) ∧ Keep w1 w') := Lib.hid fun w1 q => err_at (HS2.out.keep q)
      have HQErr : Hid (∀ w1, Keep wc w1 → Calls Tryd.prog 20 #[.pointer (some ⟨g, 0, none⟩)] w1 fun e w' => e = .returned (.int .i64 (s2.err : Nat)) ∧ Keep w1 w') := Lib.hid fun w1 q => qerr_at (HR2.out.keep q)
      have HDone : Hid (∀ w1, Keep wc w1 → Calls Tryd.prog 21 #[.pointer (some ⟨b, 0, none⟩)] w1 fun e w' => e = .returned (.bool (decide s2.full)) ∧ Keep w1 w') := Lib.hid fun w1 q => done_at (HS2.out.keep q)
      have hl256 : s2.l.length ≤ 256 := HS2.out.map.few
      have hlN : s2.l.length = N := by rw [HS2.out.good.len]; exact HCL2.out
      have HBase : Hid (∀ w1, Keep wc w1 → Calls Tryd.prog 22 #[.slice (some ⟨gi, oi, none⟩) N icap] w1 fun e w' => e = .returned (.int .i64 (baseN s2.l : Nat)) ∧ Keep w1 w') := Lib.hid fun w1 q => by
        refine (qbase _ s2.l w1 (HR2.out.keep q).inn hl256).mono ?_
        rintro e w2 ⟨rfl, rfl⟩
        exact ⟨rfl, Keep.refl _⟩
      have HQCnt : Hid (∀ w1, Keep wc w1 → Calls Tryd.prog 25 #[.slice (some ⟨gi, oi, none⟩) N icap] w1 fun e w' => e = .returned (.int .i64 (cntN s2.l : Nat)) ∧ Keep w1 w') := Lib.hid fun w1 q => by
        refine (qcount _ s2.l w1 (HR2.out.keep q).inn hl256).mono ?_
        rintro e w2 ⟨rfl, rfl⟩
        exact ⟨rfl, Keep.refl _⟩
      have HThere : Hid (∀ w1, Keep wc w1 → Calls Tryd.prog 23 #[.pointer (some ⟨b, 0, none⟩)] w1 fun e w' => ∃ c, e = .returned (.pointer (some ⟨c, 0, none⟩)) ∧ w1.heap.size ≤ c ∧ M w' c s2.l ∧ Keep w1 w') := Lib.hid fun w1 q => there_at (HS2.out.keep q)
      have HCnt : Hid (∀ w1 c, M w1 c s2.l → Calls Tryd.prog 24 #[.pointer (some ⟨c, 0, none⟩)] w1 fun e w' => e = .returned (.int .i64 (cntN s2.l : Nat)) ∧ Keep w1 w') := Lib.hid fun w1 c m => by
        refine (count_at c s2.l w1 m).mono ?_
        rintro e w2 ⟨rfl, rfl⟩
        exact ⟨rfl, Keep.refl _⟩
      have HC : Hid (∀ w1, Keep wc w1 → w1.cell? ⟨g, 3, none⟩ = some (.slice (some ⟨gi, oi, none⟩) N icap)) := Lib.hid fun w1 q => (HR2.out.keep q).i
      have hfull : ((baseN s2.l : Int) == (N : Int)) = decide s2.full := by
        have e : s2.full ↔ baseN s2.l = N := by unfold Sd.full; rw [hlN]
        by_cases hfu : s2.full
        · rw [decide_eq_true hfu, e.1 hfu]; simp
        · rw [decide_eq_false hfu]
          have hB : ¬ baseN s2.l = N := fun q => hfu (e.2 q)
          simpa using (by omega : ¬ (baseN s2.l : Int) = (N : Int))
      have HHas : Hid (∀ w1 c (j : Nat), M w1 c s2.l → Calls Tryd.prog 27 #[.pointer (some ⟨c, 0, none⟩), .int .i64 (j : Nat)] w1 fun e w' => e = .returned (.bool (s2.l.getD j false)) ∧ Keep w1 w') := Lib.hid fun w1 c j m => by
        have := has_at c s2.l (j : Nat) w1 m
        rw [hasB_nat] at this
        exact this
      generalize decide s2.full = F at *
      generalize baseN s2.l = B at *
      generalize cntN s2.l = CN at *
      generalize s2.err = ER at *
      have e2 : ((ER : Int) != (ER : Int)) = false := by simp
      have e3 : ((CN : Int) != (CN : Int)) = false := by simp
      have e4 : (F != F) = false := by cases F <;> rfl
      have e5 : (!(F == F)) = false := by cases F <;> rfl
      have cn0 := HC.out wc.drew (Keep.refl wc).drew
      have cna := HC.out (wc.drewN 1) ((Keep.refl wc).drewN 1)
      clear hl256 hlN
      go_upto_region 21 with fail
      go_region_held3 (fun w' => w'.cell? ⟨g, 3, none⟩ = some (.slice (some ⟨gi, oi, none⟩) N icap)) (first | exact HC.out _ k7 | exact HC.out _ k6 | exact HC.out _ k5 | exact HC.out _ k4 | exact HC.out _ k3 | exact HC.out _ k2 | exact HC.out _ k1 | exact HC.out _ (Keep.refl wc).drew | exact HC.out _ ((Keep.refl wc).drewN 1) | exact HC.out _ (Keep.refl wc)) (first | (go_at_call 19; refine (HErr.out _ (by first | exact (Keep.refl wc).drew | exact (Keep.refl wc).drewN 1 | exact Keep.refl wc)).mono ?_; rintro e v1 ⟨rfl, q1⟩; have k1 : Keep wc v1 := Keep.trans (by first | exact (Keep.refl wc).drew | exact (Keep.refl wc).drewN 1 | exact Keep.refl wc) q1) | (go_at_call 20; refine (HQErr.out _ k1).mono ?_; rintro e v2 ⟨rfl, q2⟩; have k2 : Keep wc v2 := Keep.trans k1 q2) | (go_at_call 21; refine (HDone.out _ k2).mono ?_; rintro e v3 ⟨rfl, q3⟩; have k3 : Keep wc v3 := Keep.trans k2 q3) | (go_at_call 22; refine (HBase.out _ k3).mono ?_; rintro e v4 ⟨rfl, q4⟩; have k4 : Keep wc v4 := Keep.trans k3 q4) | (go_at_call 23; refine (HThere.out _ k4).mono ?_; rintro e v5 ⟨c5, rfl, hc5, m5, q5⟩; have k5 : Keep wc v5 := Keep.trans k4 q5) | (go_at_call 24; refine (HCnt.out _ c5 m5).mono ?_; rintro e v6 ⟨rfl, q6⟩; have k6 : Keep wc v6 := Keep.trans k5 q6) | (go_at_call 25; refine (HQCnt.out _ k6).mono ?_; rintro e v7 ⟨rfl, q7⟩; have k7 : Keep wc v7 := Keep.trans k6 q7))
      have HK7 := Lib.hid k7
      clear k1 k2 k3 k4 k5 k6 k7 q1 q2 q3 q4 q5 q6 q7 m5 hc5 cn0 cna HErr HQErr HDone HBase HQCnt HCnt HC hfull e2 e3 e4 e5
      go_wp2_with fail
      generalize wr = wj at *
      go_loopw [135] (fun iv wr => FxRel N v7 iv wr) (fun i _ => 300 - (intOf i).toNat)
      case atStart => exact ⟨0, rfl, Nat.zero_le _, Keep.refl _⟩
      case round =>
        obtain ⟨j, rfl, hj, hK⟩ := hrel
        have HKj := Lib.hid (HK7.out.trans hK)
        have HKi := Lib.hid hK
        clear hK
        by_cases hjN : j < N
        · have hjc : j < s2.ch.length := by rw [HCL2.out]; exact hjN
          have HSj := Lib.hid (HS2.out.keep HKj.out)
          have HRj := Lib.hid (HR2.out.keep HKj.out)
          obtain ⟨T, hT⟩ : ∃ T, (s2.at j).tries = T := ⟨_, rfl⟩
          have hT2 : s2.tries (j : Nat) = T := by unfold Sd.tries; rw [if_pos (by omega), Int.toNat_natCast]; exact hT
          have HTr : Hid (∀ w1, Keep wr w1 → Calls Tryd.prog 26 #[.pointer (some ⟨b, 0, none⟩), .int .i64 (j : Nat)] w1 fun e w' => e = .returned (.int .i64 (T : Nat)) ∧ Keep w1 w') := Lib.hid fun w1 q => by
            refine (tries_at (j : Nat) (HSj.out.keep q)).mono ?_
            rintro e w2 ⟨rfl, rfl⟩
            rw [hT2]
            exact ⟨rfl, Keep.refl _⟩
          have HTh : Hid (∀ w1, Keep wr w1 → Calls Tryd.prog 23 #[.pointer (some ⟨b, 0, none⟩)] w1 fun e w' => ∃ c, e = .returned (.pointer (some ⟨c, 0, none⟩)) ∧ w1.heap.size ≤ c ∧ M w' c s2.l ∧ Keep w1 w') := Lib.hid fun w1 q => there_at (HSj.out.keep q)
          have HC : Hid (∀ w1, Keep wr w1 → w1.cell? ⟨g, 4, none⟩ = some (.slice (some ⟨bt, 0, none⟩) N N) ∧ w1.cell? ⟨bt, j, none⟩ = some (.int .i64 (T : Nat)) ∧ w1.cell? ⟨g, 3, none⟩ = some (.slice (some ⟨gi, oi, none⟩) N icap) ∧ w1.cell? ⟨gi, oi + j, none⟩ = some (.bool (s2.l.getD j false))) := Lib.hid fun w1 q => ⟨by rw [(HRj.out.keep q).t, HCL2.out], by rw [(HRj.out.keep q).tries j hjc, hT], (HRj.out.keep q).i, (HRj.out.keep q).bit j hjc⟩
          have HHj := Lib.hid (fun w1 c (m : M w1 c s2.l) => HHas.out w1 c j m)
          generalize s2.l.getD j false = X at *
          have e2 : ((T : Int) != (T : Int)) = false := by simp
          have e3 : (X != X) = false := by cases X <;> rfl
          have cn0 := HC.out wr.drew (Keep.refl wr).drew
          have cna := HC.out (wr.drewN 1) ((Keep.refl wr).drewN 1)
          clear hT hT2 hjc
          go_upto_region 26 with fail
          go_region_held3 (fun w' => w'.cell? ⟨g, 4, none⟩ = some (.slice (some ⟨bt, 0, none⟩) N N) ∧ w'.cell? ⟨bt, j, none⟩ = some (.int .i64 (T : Nat)) ∧ w'.cell? ⟨g, 3, none⟩ = some (.slice (some ⟨gi, oi, none⟩) N icap) ∧ w'.cell? ⟨gi, oi + j, none⟩ = some (.bool X)) (first | exact HC.out _ k3 | exact HC.out _ k2 | exact HC.out _ k1 | exact HC.out _ (Keep.refl wr).drew | exact HC.out _ ((Keep.refl wr).drewN 1) | exact HC.out _ (Keep.refl wr)) (first | (go_at_call 26; refine (HTr.out _ (by first | exact (Keep.refl wr).drew | exact (Keep.refl wr).drewN 1 | exact Keep.refl wr)).mono ?_; rintro e v1 ⟨rfl, q1⟩; have k1 : Keep wr v1 := Keep.trans (by first | exact (Keep.refl wr).drew | exact (Keep.refl wr).drewN 1 | exact Keep.refl wr) q1) | (go_at_call 23; refine (HTh.out _ k1).mono ?_; rintro e v2 ⟨c5, rfl, hc5, m5, q2⟩; have k2 : Keep wr v2 := Keep.trans k1 q2) | (go_at_call 27; refine (HHj.out _ c5 m5).mono ?_; rintro e v3 ⟨rfl, q3⟩; have k3 : Keep wr v3 := Keep.trans k2 q3))
          have HKe := Lib.hid (HKi.out.trans k3)
          clear k1 k2 k3 q1 q2 q3 m5 hc5 cn0 cna HTr HTh HC HHj e2 e3
          go_wp2
          go_roundw
          case rel => exact ⟨j + 1, by go_num, by omega, HKe.out⟩
          case measure => simp [intOf]; omega
        · obtain rfl : j = N := by omega
          have HSj := Lib.hid (HS2.out.keep HKj.out)
          have HRj := Lib.hid (HR2.out.keep HKj.out)
          go_wp2
          go_roundw
          case rel => exact ⟨k + 1, s2, _, by go_num, by omega, HSj.out, HRj.out, HCL2.out, HNow2.out, HI2.out, HT2.out.thenKeep HKj.out⟩
          case measure => simp [intOf]; omega

open Go.ChangeShapes Go.WideShapes Go.ChangeAt
set_option maxRecDepth 100000 in
theorem lifted (os : Os) (started : os.Started) (H : Type) (enc : TypeId × Value → H) :
    ReturnsInHanded {} Tryd.checked os 3 .any (fun w args => (Rows.senderPlaysSpec.pre enc Tryd.prog Tryd.f3 [] false w args ∧ laidMetH Tryd.prog laid1 w) ∧ sizedMet enc Tryd.prog Tryd.f3 (OpenSpec.ofChange Rows.senderPlaysSpec) false w args)
      (Rows.senderPlaysSpec.post enc Tryd.prog Tryd.f3 false true false false) := by
  refine returnsInHanded_of_change_and (C := Tryd.checked) (X := fun w _ => laidMetH Tryd.prog laid1 w) (fun _ _ _ hh h => h.of_heap hh) own started (by kernel_rfl) Tryd.func3
    (ChangeSpec.witness_shaped (enc := enc) (C := Tryd.checked) (os := os) (X := fun w _ => laidMetH Tryd.prog laid1 w) false (World.doorLaid Tryd.prog 400 os) #[.int .i64 0, .int .i64 0, .slice none 0 0, .slice none 0 0] 8 rfl (World.shaped_of_RefB (by kernel_rfl) (by kernel_rfl)) (by kernel_rfl) (by kernel_rfl) (by kernel_rfl) (door_met os _)) ?_
  intro W base args ds gs before hval0 hW _ _ hL _
  have hval : ∀ (j : Nat) t v, Tryd.f3.params[j]? = some t → args[j]? = some v → Value.okWide Tryd.prog W .any base t v := hval0
  have hW' := hW
  obtain ⟨p, q, hA0, hV, rfl, hfz, hnd⟩ := hW
  have hA : DataW.TrodAll enc Tryd.prog W 0 (fun _ => true) true Tryd.f3.params.toList args.toList ds p := hA0

  rw [Tryd.params3] at hA hval
  obtain ⟨v0, vs0, d0, ds0, p0, q0, hargs, rfl, rfl, h0, r0⟩ := trodAll_cons hA
  obtain ⟨v1, vs1, d1, ds1, p1, q1, rfl, rfl, rfl, h1, r1⟩ := trodAll_cons r0
  obtain ⟨v2, vs2, d2, ds2, p2, q2, rfl, rfl, rfl, h2, r2⟩ := trodAll_cons r1
  obtain ⟨v3, vs3, d3, ds3, p3, q3, rfl, rfl, rfl, h3, r3⟩ := trodAll_cons r2
  obtain ⟨rfl, rfl, rfl⟩ := trodAll_nil r3
  obtain rfl : args = #[v0, v1, v2, v3] := by cases args; simp_all
  obtain ⟨rfl, rfl⟩ := trodVars_none hV
  have k0 := h0
  have lt0 : ∀ x ∈ p0, x.block < W.heap.size := by obtain ⟨m, hm⟩ := k0; exact DataW.trod_lt m _ _ _ hm
  have k1 := h1
  have lt1 : ∀ x ∈ p1, x.block < W.heap.size := by obtain ⟨m, hm⟩ := k1; exact DataW.trod_lt m _ _ _ hm
  have k2 := h2
  have lt2 : ∀ x ∈ p2, x.block < W.heap.size := by obtain ⟨m, hm⟩ := k2; exact DataW.trod_lt m _ _ _ hm
  have k3 := h3
  have lt3 : ∀ x ∈ p3, x.block < W.heap.size := by obtain ⟨m, hm⟩ := k3; exact DataW.trod_lt m _ _ _ hm
  obtain ⟨a0, rfl, _, _, w0⟩ := open_int Tryd.underlying3 (hval 0 3 v0 rfl rfl) h0
  obtain ⟨a1, rfl, _, _, w1⟩ := open_int Tryd.underlying3 (hval 1 3 v1 rfl rfl) h1
  obtain ⟨a2, cap2, l2, rfl, f2⟩ := open_texts (hval 2 22 v2 rfl rfl) h2
  obtain ⟨a3, cap3, l3, rfl, f3⟩ := open_ops (hval 3 23 v3 rfl rfl) h3
  clear hA0 hval0
  refine (walk a0 a1 a2 cap2 l2 a3 cap3 l3 W (bounds_i64 w0) (bounds_i64 w1) f2 f3 (of_laid hL)).mono fun e W' ⟨he, bel0⟩ => ?_
  subst he
  have bel : Below W.heap.size W W' := bel0
  exact ⟨_, rfl, _, _, _, [], _, [], hW', trodAll_mk1 (shut_bool Tryd.underlying4 _), (trodAll_cons_mk (Below.trod laidOut (by kernel_rfl) (of_decide_eq_true (by kernel_rfl)) k0 bel lt0) (trodAll_cons_mk (Below.trod laidOut (by kernel_rfl) (of_decide_eq_true (by kernel_rfl)) k1 bel lt1) (trodAll_cons_mk (Below.trod laidOut (by kernel_rfl) (of_decide_eq_true (by kernel_rfl)) k2 bel lt2) (trodAll_cons_mk (Below.trod laidOut (by kernel_rfl) (of_decide_eq_true (by kernel_rfl)) k3 bel lt3) trodAll_mk0)))), rfl, bel.frame _, fun h => by cases h⟩

theorem over : Rows.senderPlaysRow.holds Tryd.pinned (OpenSpec.ofChange Rows.senderPlaysSpec) :=
  OpenClaim.holds_of_wide 3 Tryd.f3 rfl rfl rfl rfl rfl rfl rfl ⟨rfl, rfl, rfl, rfl, rfl⟩ rfl rfl rfl rfl rfl (by kernel_rfl) Tryd.func3 (by kernel_rfl)
    (of_decide_eq_true (by kernel_rfl)) (by unfold Func.isWrapper; first | (rw [if_pos (by decide +kernel)]; kernel_rfl) | (rw [if_neg (by decide +kernel)]; exact ⟨rfl, rfl⟩))
    (fun os started H enc _ => lifted os started H enc)
theorem card : Claim7.holds Tryd.pinned (.plain (OpenSpec.ofChange Rows.senderPlaysSpec)) Rows.senderPlaysCard :=
  Claim7.holds_tied_plain_at .later [] [.data] true (true, "554ae483f9e9f502615417fb0d3524028c2a08dd4716909f5bdc5e82ac887e20") false
    over (fun _ h => by cases h) (by kernel_rfl) (fun _ h => by cases h) senderPlays_row_tie rfl ⟨rfl, rfl⟩ (by kernel_rfl) rfl
    (fun f fn hf hfn => by
      obtain rfl : f = 3 := Option.some.inj ((show Tryd.prog.funcNamed Rows.senderPlaysRow.func = some 3 by kernel_rfl).symm.trans hf) |>.symm
      obtain rfl : fn = Tryd.f3 := (Option.some.inj (Tryd.func3.symm.trans hfn)).symm
      exact ⟨by kernel_rfl, fun j t ht => by
        rw [Tryd.params3] at ht
        have hm : t ∈ [3, 3, 22, 23] := by simpa using Array.mem_of_getElem? ht
        have hall : ([3, 3, 22, 23].all fun u => !Tryd.prog.wantsStandIn u) = true := by kernel_rfl
        exact (show Tryd.prog.wantsStandIn t = false by simpa using List.all_eq_true.1 hall t hm)⟩)
    (by kernel_rfl)
end Go.Proofs.YtcnaaoakcmdfkaaDoor.LSenderPlays

namespace Go.Proofs.YtcnaaoakcmdfkaaDoor
theorem senderPlays_holds : Rows.SenderPlaysCardSaid := LSenderPlays.card
#print axioms senderPlays_holds
end Go.Proofs.YtcnaaoakcmdfkaaDoor

