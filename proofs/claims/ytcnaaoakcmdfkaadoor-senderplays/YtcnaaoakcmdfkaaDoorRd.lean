/- Proved: what the document's Tick of a sender answers, and what it does to memory. Condition: the sender lies in memory (R); there were at most a million ticks. -/
import Derived.Test.YtcnaaoakcmdfkaaDoorRe
namespace Go.Proofs.YtcnaaoakcmdfkaaDoor
open Go.RowKit

def dueK (s : Sd) (k : Nat) : List Nat := (misK s.l (baseN s.l : Nat) ((baseN s.l : Nat) + 8) k).filter s.fresh
theorem dueK_start (s : Sd) : dueK s (baseN s.l) = [] := by unfold dueK; rw [misK_low _ _ _ _ (by omega)]; rfl
theorem dueK_end (s : Sd) (k : Nat) (h1 : baseN s.l ≤ k) (h2 : k ≤ s.l.length) (h3 : ¬ (k < baseN s.l + 8 ∧ k < s.l.length)) : dueK s k = s.due := by
  unfold dueK Sd.due Sd.win
  rw [misK_end s.l _ _ k (by omega) (.inr h2) (by omega)]
theorem dueK_yes (s : Sd) (k : Nat) (h1 : baseN s.l ≤ k) (h2 : k < baseN s.l + 8) (h3 : s.l.getD k false = false) (h4 : s.fresh k = true) : dueK s (k + 1) = dueK s k ++ [k] := by
  unfold dueK
  rw [misK_yes _ _ _ _ (by rw [misP_here _ _ _ _ (by omega) (by omega), h3]; rfl), List.filter_append]
  simp [h4]
theorem dueK_no (s : Sd) (k : Nat) (h1 : baseN s.l ≤ k) (h2 : k < baseN s.l + 8) (h : s.l.getD k false = true ∨ s.fresh k = false) : dueK s (k + 1) = dueK s k := by
  unfold dueK
  cases h3 : s.l.getD k false
  · rw [h3] at h
    have h4 : s.fresh k = false := h.resolve_left (by simp)
    rw [misK_yes _ _ _ _ (by rw [misP_here _ _ _ _ (by omega) (by omega), h3]; rfl), List.filter_append]
    simp [h4]
  · rw [misK_no _ _ _ _ (by rw [misP_here _ _ _ _ (by omega) (by omega), h3]; rfl)]
theorem dueK_len (s : Sd) (k : Nat) : (dueK s k).length ≤ k := Nat.le_trans (List.length_filter_le _ _) (misK_len _ _ _ _)
theorem R.bit {w : World} {g bt ba cap gi oi n icap : Nat} {a : Option Addr} {s : Sd} (h : R w g bt ba a cap (.slice (some ⟨gi, oi, none⟩) n icap) s) (i : Nat) (hi : i < s.ch.length) : w.cell? ⟨gi, oi + i, none⟩ = some (.bool (s.l.getD i false)) := by
  obtain ⟨g2, o2, c2, hv, hc⟩ := h.there
  injection hv with e1 e2 e3
  injection e1 with e1
  injection e1 with y1 y2 y3
  subst y1 y2
  exact hc i hi
theorem R.datum {w : World} {g bt ba cap gc oc : Nat} {iv : Value} {s : Sd} (h : R w g bt ba (some ⟨gc, oc, none⟩) cap iv s) (i : Nat) (hi : i < s.ch.length) : w.cell? ⟨gc, oc + i, none⟩ = some (.string ⟨(s.at i).data.toArray⟩) := by
  obtain ⟨g2, o2, hv, hc⟩ := h.text
  injection hv with e1
  injection e1 with y1 y2 y3
  subst y1 y2
  exact hc i hi
def DqRel (t : Sd) (W : World) (v iv : Value) (wr : World) : Prop :=
  ∃ k : Nat, iv = .int .i64 k ∧ baseN t.l ≤ k ∧ k ≤ t.l.length ∧ OwnI W.heap.size wr v (dueK t k) ∧ Keep W wr
def LqRel (t : Sd) (W : World) (iv : Value) (wr : World) : Prop :=
  ∃ k : Nat, iv = .int .i64 k ∧ k ≤ t.due.length ∧ (∀ i ∈ t.due.take k, t.over i = false) ∧ Keep W wr
def SqRel (g bt ba : Nat) (a : Option Addr) (cap : Nat) (qv : Value) (t : Sd) (W : World) (v iv : Value) (wr : World) : Prop :=
  ∃ k : Nat, iv = .int .i64 k ∧ k ≤ t.due.length ∧ OwnF W.heap.size wr v ((t.due.take k).map t.frame) ∧ R wr g bt ba a cap qv (t.puts (t.due.take k)) ∧ Turn [bt, ba] W wr
section
variable {w : World} {g bt ba cap : Nat} {a : Option Addr} {qv : Value} {s : Sd}
set_option maxRecDepth 100000 in
set_option maxHeartbeats 4000000 in
theorem qtick_at (h : R w g bt ba a cap qv s) (hnow : s.now ≤ 1000000) : Calls Tryd.prog 15 #[.pointer (some ⟨g, 0, none⟩)] w fun e w' =>
    ∃ v, e = .returned (.tuple #[v, .int .i64 (s.tickE : Nat)]) ∧ OwnF w.heap.size w' v s.tickF ∧ R w' g bt ba a cap qv s.tick ∧ Turn [g, bt, ba] w w' := by
  have HR := Lib.hid h
  have c2 := h.c
  have c3 := h.i
  have c7 := h.lost
  have hlen := h.good.len
  have hfew := h.good.few
  have HBase := Lib.hid (qbase qv s.l w h.inn (by rw [hlen]; exact hfew))
  have hfu : s.full ↔ baseN s.l = s.ch.length := by unfold Sd.full; rw [hlen]
  by_cases hf : s.full
  · have HE := Lib.hid (show s.tickE = 15 ∧ s.tickF = [] ∧ s.tick = s by unfold Sd.tickE Sd.tickF Sd.tick; rw [if_pos hf, if_pos hf, if_pos hf]; exact ⟨rfl, rfl, rfl⟩)
    rw [HE.out.1, HE.out.2.1, HE.out.2.2]
    rw [hfu.1 hf] at HBase
    clear hf hfu hlen h
    generalize s.ch.length = N at *
    go_enter Tryd.func15, Tryd.ntmps15
    go_wp2_with fail
    refine HBase.out.mono ?_
    rintro e w1 ⟨rfl, rfl⟩
    go_wp2
    go_ret2
    exact ⟨_, rfl, Own.nil _ _, HR.out, Turn.refl _ _⟩
  have hne : ((baseN s.l : Int) == (s.ch.length : Int)) = false := by
    have : ¬ baseN s.l = s.ch.length := fun e => hf (hfu.2 e)
    simpa using (by omega : ¬ (baseN s.l : Int) = s.ch.length)
  cases hl : s.lost
  rotate_left
  · have HE := Lib.hid (show s.tickE = 16 ∧ s.tickF = [] ∧ s.tick = s by
      unfold Sd.tickE Sd.tickF Sd.tick
      rw [if_neg hf, if_neg hf, if_neg hf, if_pos hl, if_pos hl, if_pos hl]
      exact ⟨rfl, rfl, rfl⟩)
    rw [HE.out.1, HE.out.2.1, HE.out.2.2]
    rw [hl] at c7
    clear hf hfu hlen h hl
    generalize s.ch.length = N at *
    generalize baseN s.l = B at *
    go_enter Tryd.func15, Tryd.ntmps15
    go_wp2_with fail
    refine HBase.out.mono ?_
    rintro e w1 ⟨rfl, rfl⟩
    go_wp2
    go_ret2
    exact ⟨_, rfl, Own.nil _ _, HR.out, Turn.refl _ _⟩
  have HE := Lib.hid (show s.tickE = (if s.on.due.any s.on.over = true then 16 else 0) ∧ s.tickF = (if s.on.due.any s.on.over = true then [] else s.on.due.map s.on.frame) ∧ s.tick = (if s.on.due.any s.on.over = true then s.on.gone else s.on.puts s.on.due) by
    unfold Sd.tickE Sd.tickF Sd.tick
    have hl2 : ¬ s.lost = true := by rw [hl]; simp
    rw [if_neg hf, if_neg hf, if_neg hf, if_neg hl2, if_neg hl2, if_neg hl2]
    exact ⟨rfl, rfl, rfl⟩)
  rw [HE.out.1, HE.out.2.1, HE.out.2.2]
  rw [hl] at c7
  have c6 := h.now
  have f6 := h.free 6
  have hr1 := h.setOn
  have ht1 : Turn [g, bt, ba] w (w.setCell ⟨g, 6, none⟩ (.int .i64 (s.now + 1 : Nat))) := Turn.setCell w g 6 _ (by simp)
  rw [show ((s.now + 1 : Nat) : Int) = (s.now : Int) + 1 from rfl] at hr1 ht1
  have HR1 := Lib.hid hr1
  have HT1 := Lib.hid ht1
  have hs0 := ht1.size
  have hb : baseN s.l < s.ch.length := by
    have := base_le s.l
    have : ¬ baseN s.l = s.ch.length := fun e => hf (hfu.2 e)
    omega
  have hon : s.on.l = s.l := rfl
  have honc : s.on.ch.length = s.ch.length := rfl
  have honn : s.on.now = s.now + 1 := rfl
  obtain ⟨gi, oi, icap, rfl, _⟩ := HR1.out.there
  obtain ⟨gc, oc, rfl, _⟩ := HR1.out.text
  clear h hr1 ht1 hf hfu hl HE
  generalize s.now = now at *
  generalize s.on = t at *
  rw [← hon] at HBase hne hb hlen
  obtain ⟨N, hN⟩ : ∃ N, s.ch.length = N := ⟨_, rfl⟩
  rw [hN] at c2 hne hb hlen honc hfew
  clear hN hon
  obtain ⟨B, hB⟩ : ∃ B, baseN t.l = B := ⟨_, rfl⟩
  have HBB := Lib.hid hB
  rw [hB] at HBase hne hb
  clear hB
  rw [honc] at HBase c3 HR1 HR ⊢
  have HCH := Lib.hid honc
  clear honc
  go_enter Tryd.func15, Tryd.ntmps15
  go_wp2_with fail
  refine HBase.out.mono ?_
  rintro e w1 ⟨rfl, rfl⟩
  go_wp2_with fail
  generalize hw1 : w1.setCell ⟨g, 6, none⟩ (.int .i64 ((now : Int) + 1)) = w2 at *
  clear hw1 c2 c3 c6 c7 f6 HBase HR
  go_loopw [5, 6] (fun v iv wr => DqRel t w2 v iv wr) (fun _ i _ => 300 - (intOf i).toNat)
  case atStart => exact ⟨B, rfl, by rw [HBB.out]; exact Nat.le_refl _, by omega, by rw [← HBB.out, dueK_start]; exact Own.nil _ _, Keep.refl _⟩
  case round =>
    obtain ⟨k, rfl, hk1, hk2, hO, hK⟩ := hrel
    rw [HBB.out] at hk1
    have HO := Lib.hid hO
    have HK := Lib.hid hK
    have hRw := HR1.out.keep hK
    have c2 := hRw.c
    rw [HCH.out] at c2
    clear hO hK
    by_cases hlt : k < B + 8 ∧ k < N
    · have e1 : decide ((k : Int) < (B : Int) + 8) = true := decide_eq_true (by omega)
      have e2 : (k : Int) < (N : Int) := by omega
      have hkc : k < t.ch.length := by rw [HCH.out]; exact hlt.2
      have a2 : ∀ u : KW wr, u.1.cell? ⟨g, 3, none⟩ = some (.slice (some ⟨gi, oi, none⟩) N icap) := fun u => (hRw.keep u.2).i
      have ai : ∀ u : KW wr, u.1.cell? ⟨gi, oi + k, none⟩ = some (.bool (t.l.getD k false)) := fun u => (hRw.keep u.2).bit k hkc
      have a3 : ∀ u : KW wr, u.1.cell? ⟨g, 4, none⟩ = some (.slice (some ⟨bt, 0, none⟩) N N) := fun u => by rw [(hRw.keep u.2).t, HCH.out]
      have at1 : ∀ u : KW wr, u.1.cell? ⟨bt, k, none⟩ = some (.int .i64 ((t.at k).tries : Nat)) := fun u => (hRw.keep u.2).tries k hkc
      have a4 : ∀ u : KW wr, u.1.cell? ⟨g, 5, none⟩ = some (.slice (some ⟨ba, 0, none⟩) N N) := fun u => by rw [(hRw.keep u.2).ats, HCH.out]
      have aa : ∀ u : KW wr, u.1.cell? ⟨ba, k, none⟩ = some (.int .i64 ((t.at k).last : Nat)) := fun u => (hRw.keep u.2).last k hkc
      have a5 : ∀ u : KW wr, u.1.cell? ⟨g, 6, none⟩ = some (.int .i64 (t.now : Nat)) := fun u => (hRw.keep u.2).now
      have a6 : True := trivial
      have hlast := HR1.out.good.last k
      have hfr0 : t.fresh k = (decide ((t.at k).tries = 0) || decide ((t.at k).last + 4 ≤ t.now)) := rfl
      have hnow2 : t.now ≤ 1000001 := by rw [honn]; omega
      clear hRw hkc honn
      generalize (t.at k).tries = T at *
      generalize (t.at k).last = T2 at *
      generalize t.now = tn at *
      cases hbit : t.l.getD k false
      rotate_left
      · rw [hbit] at ai
        have HE := Lib.hid (dueK_no t k (by rw [HBB.out]; omega) (by rw [HBB.out]; omega) (.inl hbit))
        go_wp2_with fail
        refine wp_region_keep (Keep.refl _) (by kernel_rfl) (by kernel_rfl) ?_
        repeat (first | go_big_quiet_step (fail) | quiet_step (fail))
        refine wpQuiet_nil ?_
        rintro v4 ⟨⟨v5, q5⟩, hv⟩
        obtain rfl : v5 = v4 := hv.symm
        have HO5 := Lib.hid (HO.out.keep q5)
        have HK5 := Lib.hid (HK.out.trans q5)
        clear hv a2 a3 a4 a5 a6 ai at1 aa q5 hfr0 hbit
        go_wp2
        go_roundw
        case rel => exact ⟨k + 1, by go_num, by rw [HBB.out]; omega, by omega, by rw [HE.out]; exact HO5.out, HK5.out⟩
        case measure => simp [intOf]; omega
      rw [hbit] at ai
      by_cases ht : T = 0
      · have hT : ((T : Int) == 0) = true := by rw [ht]; rfl
        have hfr : t.fresh k = true := by rw [hfr0, decide_eq_true ht]; rfl
        have HE := Lib.hid (dueK_yes t k (by rw [HBB.out]; omega) (by rw [HBB.out]; omega) hbit hfr)
        clear hbit hfr
        go_wp2_with fail
        refine wp_region_keep (Keep.refl _) (by kernel_rfl) (by kernel_rfl) ?_
        repeat (first | go_big_quiet_step (fail) | quiet_step (fail))
        refine wpQuiet_nil ?_
        rintro v4 ⟨⟨v5, q5⟩, hv⟩
        obtain rfl : v5 = v4 := hv.symm
        have HO5 := Lib.hid (HO.out.keep q5)
        have HK5 := Lib.hid (HK.out.trans q5)
        clear hv a2 a3 a4 a5 a6 ai at1 aa q5 hT ht hfr0
        go_wp2_with (at_builtin; refine wp_app elI rfl _ _ rfl w2.heap.size _ _ (dueK t k) [k] rfl rfl (HO5.out.keep ((Keep.refl _).alloc _)) (one_int v5 k) ?q1 ?q2 ?q3 ?_)
        case q1 => have := dueK_len t k; simp; omega
        case q2 => have := dueK_len t k; simp; omega
        case q3 => have := HK5.out.size; simp; omega
        intro v' w3 hO3 hG
        have HO3 := Lib.hid hO3
        have HK6 := Lib.hid (HO5.out.grown2 HK5.out hG)
        clear hO3 hG
        go_wp2
        go_roundw
        case rel => exact ⟨k + 1, by go_num, by rw [HBB.out]; omega, by omega, by rw [HE.out]; exact HO3.out, HK6.out⟩
        case measure => simp [intOf]; omega
      have hT : ((T : Int) == 0) = false := by simpa using ht
      by_cases h4 : T2 + 4 ≤ tn
      · have hge : (tn : Int) - (T2 : Int) ≥ 4 := by omega
        have hfr : t.fresh k = true := by rw [hfr0, decide_eq_true h4, Bool.or_true]
        have HE := Lib.hid (dueK_yes t k (by rw [HBB.out]; omega) (by rw [HBB.out]; omega) hbit hfr)
        clear hbit hfr
        go_wp2_with fail
        refine wp_region_keep (Keep.refl _) (by kernel_rfl) (by kernel_rfl) ?_
        repeat (first | go_big_quiet_step (fail) | quiet_step (fail))
        refine wpQuiet_nil ?_
        rintro v4 ⟨⟨v5, q5⟩, hv⟩
        obtain rfl : v5 = v4 := hv.symm
        have HO5 := Lib.hid (HO.out.keep q5)
        have HK5 := Lib.hid (HK.out.trans q5)
        clear hv a2 a3 a4 a5 a6 ai at1 aa q5 hT ht hfr0 hge h4
        go_wp2_with (at_builtin; refine wp_app elI rfl _ _ rfl w2.heap.size _ _ (dueK t k) [k] rfl rfl (HO5.out.keep ((Keep.refl _).alloc _)) (one_int v5 k) ?q1 ?q2 ?q3 ?_)
        case q1 => have := dueK_len t k; simp; omega
        case q2 => have := dueK_len t k; simp; omega
        case q3 => have := HK5.out.size; simp; omega
        intro v' w3 hO3 hG
        have HO3 := Lib.hid hO3
        have HK6 := Lib.hid (HO5.out.grown2 HK5.out hG)
        clear hO3 hG
        go_wp2
        go_roundw
        case rel => exact ⟨k + 1, by go_num, by rw [HBB.out]; omega, by omega, by rw [HE.out]; exact HO3.out, HK6.out⟩
        case measure => simp [intOf]; omega
      · have hge : ¬ (tn : Int) - (T2 : Int) ≥ 4 := by omega
        have hfr : t.fresh k = false := by rw [hfr0, decide_eq_false ht, decide_eq_false h4]; rfl
        have HE := Lib.hid (dueK_no t k (by rw [HBB.out]; omega) (by rw [HBB.out]; omega) (.inr hfr))
        go_wp2_with fail
        refine wp_region_keep (Keep.refl _) (by kernel_rfl) (by kernel_rfl) ?_
        repeat (first | go_big_quiet_step (fail) | quiet_step (fail))
        refine wpQuiet_nil ?_
        rintro v4 ⟨⟨v5, q5⟩, hv⟩
        obtain rfl : v5 = v4 := hv.symm
        have HO5 := Lib.hid (HO.out.keep q5)
        have HK5 := Lib.hid (HK.out.trans q5)
        rw [decide_eq_false (show ¬ (4 : Int) ≤ (tn : Int) - (T2 : Int) by omega)]
        clear hv a2 a3 a4 a5 a6 ai at1 aa q5 hT ht hfr0 hge h4 hfr hbit
        go_wp2
        go_roundw
        case rel => exact ⟨k + 1, by go_num, by rw [HBB.out]; omega, by omega, by rw [HE.out]; exact HO5.out, HK5.out⟩
        case measure => simp [intOf]; omega
    · have HDue := Lib.hid (dueK_end t k (by rw [HBB.out]; exact hk1) hk2 (by rw [HBB.out, hlen]; exact hlt))
      rw [HDue.out] at HO
      have hdl2 := due_len t
      rw [hlen] at hdl2
      obtain ⟨la, lcap, rfl, _, _⟩ := (Own.row elI HO.out).cells.form
      obtain ⟨M, hM⟩ : ∃ M, t.due.length = M := ⟨_, rfl⟩
      have HM := Lib.hid hM
      rw [hM] at HO hdl2 ⊢
      have HDC := Lib.hid ((Own.row elI HO.out).cells)
      have HOB := Lib.hid (Own.block HO.out)
      have HRw := Lib.hid hRw
      have HND := Lib.hid (due_nodup t)
      have HIN := Lib.hid hRw.good.due
      have hb1 := HR1.out.lt
      have hb2 := HR1.out.ltt
      have hb3 := HR1.out.lta
      have hn1 := HR1.out.ne1
      have hn2 := HR1.out.ne2
      have hn3 := HR1.out.ne3
      clear hM hRw
      by_cases hlt8 : k < B + 8
      · have e1 : decide ((k : Int) < (B : Int) + 8) = true := decide_eq_true (by omega)
        have e2 : ¬ (k : Int) < (N : Int) := by omega
        clear hlt
        go_wp2_with fail
        generalize wr = wi at *
        clear c2
        go_loopw [7] (fun iv wr => LqRel t wi iv wr) (fun i _ => 300 - (intOf i).toNat)
        case atStart => exact ⟨0, rfl, Nat.zero_le _, by simp, Keep.refl _⟩
        case round =>
          obtain ⟨j, rfl, hj, hall, hKj⟩ := hrel
          rw [HM.out] at hj
          have HALL := Lib.hid hall
          have HKj := Lib.hid hKj
          clear hall hKj
          by_cases hjm : j < M
          · obtain ⟨i, hik⟩ : ∃ i, t.due[j]? = some i := ⟨_, List.getElem?_eq_getElem (by rw [HM.out]; exact hjm)⟩
            have him : i ∈ t.due := List.mem_of_getElem? hik
            have hi : i < t.ch.length := HIN.out i him
            have hc := HDC.out.keep HKj.out
            obtain ⟨dg, dO, dcap, hv, _, _, _⟩ := hc.ptr j (by rw [HM.out]; exact hjm)
            injection hv with y1 y2 y3
            subst y1 y3
            have hRj := HRw.out.keep HKj.out
            have ac : ∀ u : KW wr, u.1.cell? ⟨dg, dO + j, none⟩ = some (.int .i64 (i : Nat)) := fun u => Cells.int (by rw [HM.out]; exact hc.keep u.2) j i hik
            have a4 : ∀ u : KW wr, u.1.cell? ⟨g, 4, none⟩ = some (.slice (some ⟨bt, 0, none⟩) N N) := fun u => by rw [(hRj.keep u.2).t, HCH.out]
            have at1 : ∀ u : KW wr, u.1.cell? ⟨bt, i, none⟩ = some (.int .i64 ((t.at i).tries : Nat)) := fun u => (hRj.keep u.2).tries i hi
            have hT8 := HRw.out.good.tries i
            have hov : t.over i = decide (8 ≤ (t.at i).tries) := rfl
            have hiN : i < N := by rw [← HCH.out]; exact hi
            clear hc y2
            by_cases ho : t.over i = true
            · have HA := Lib.hid (show t.due.any t.over = true from List.any_eq_true.2 ⟨i, him, ho⟩)
              have hE : (t.at i).tries = 8 := by rw [hov, decide_eq_true_eq] at ho; omega
              rw [hE] at at1
              clear him ho hE hov hT8
              go_wp2_with fail
              refine wp_region_keep (Keep.refl _) (by kernel_rfl) (by kernel_rfl) ?_
              repeat (first | go_big_quiet_step (fail) | quiet_step (fail))
              refine wpQuiet_nil ?_
              rintro v4 ⟨⟨v5, q5⟩, hv⟩
              obtain rfl : v5 = v4 := hv.symm
              have hR5 := hRj.keep q5
              have c7 := hR5.lost
              have f7 := hR5.free 7
              have HG := Lib.hid hR5.setGone
              have HT := Lib.hid (((HT1.out.thenKeep (HK.out.trans HKj.out)).thenKeep q5).trans (Turn.setCell v5 g 7 (.bool true) (by simp)))
              clear hv ac a4 at1 q5 hR5 hRj
              go_wp2
              go_ret2
              refine ⟨.slice none 0 0, ?_, ?_, ?_, HT.out⟩
              · rfl
              · exact Own.nil _ _
              · exact HG.out
            · have ho2 : t.over i = false := by simpa using ho
              have hE : ¬ (t.at i).tries = 8 := by intro hq; rw [hov, hq] at ho; simp at ho
              have hE2 : (((t.at i).tries : Int) == 8) = false := by simpa using (by omega : ¬ ((t.at i).tries : Int) = 8)
              have HALL2 := Lib.hid (show ∀ x ∈ t.due.take (j + 1), t.over x = false from fun x hx => by
                rw [List.take_add_one, hik, Option.toList_some, List.mem_append] at hx
                rcases hx with hx | hx
                · exact HALL.out x hx
                · simp at hx; rw [hx]; exact ho2)
              clear him ho ho2 hE hov
              generalize (t.at i).tries = T at *
              go_wp2_with fail
              refine wp_region_keep (Keep.refl _) (by kernel_rfl) (by kernel_rfl) ?_
              repeat (first | go_big_quiet_step (fail) | quiet_step (fail))
              refine wpQuiet_nil ?_
              rintro v4 ⟨⟨v5, q5⟩, hv⟩
              obtain rfl : v5 = v4 := hv.symm
              have HK5 := Lib.hid (HKj.out.trans q5)
              clear hv ac a4 at1 q5 hRj
              go_wp2
              go_roundw
              case rel => exact ⟨j + 1, by go_num, by rw [HM.out]; omega, HALL2.out, HK5.out⟩
              case measure => simp [intOf]; omega
          · obtain rfl : j = M := by omega
            have hnone : ∀ x ∈ t.due, t.over x = false := fun x hx => HALL.out x (by rw [List.take_of_length_le (by rw [HM.out]; exact Nat.le_refl _)]; exact hx)
            have HA := Lib.hid (show ¬ t.due.any t.over = true from fun h => by
              obtain ⟨x, hx, ho⟩ := List.any_eq_true.1 h
              rw [hnone x hx] at ho
              cases ho)
            have HNO := Lib.hid hnone
            have HRj := Lib.hid (HRw.out.keep HKj.out)
            clear hnone HALL hjm
            go_wp2_with fail
            have hzw := (HK.out.trans HKj.out).size
            generalize wr = wq at *
            go_loopw [8, 9] (fun v iv wr => SqRel g bt ba (some ⟨gc, oc, none⟩) cap (.slice (some ⟨gi, oi, none⟩) N icap) t wq v iv wr) (fun _ i _ => 300 - (intOf i).toNat)
            case atStart => exact ⟨0, rfl, Nat.zero_le _, Own.nil _ _, HRj.out, Turn.refl _ _⟩
            case round =>
              obtain ⟨k3, rfl, hk3, hO3, hR3, hT3⟩ := hrel
              rw [HM.out] at hk3
              have HO3 := Lib.hid hO3
              have HT3 := Lib.hid hT3
              have HR3 := Lib.hid hR3
              clear hO3 hT3 hR3
              by_cases hlt3 : k3 < j
              rotate_left
              · obtain rfl : k3 = j := by omega
                have HE := Lib.hid (show t.due.take k3 = t.due from List.take_of_length_le (by rw [HM.out]; exact Nat.le_refl _))
                go_wp2
                go_ret2
                refine ⟨u8, ?_, ?_, ?_, (HT1.out.thenKeep (HK.out.trans HKj.out)).trans (HT3.out.mono (by simp))⟩
                · rfl
                · rw [← HE.out]; exact HO3.out.low (by omega)
                · rw [← HE.out]; exact HR3.out
              obtain ⟨i, hik⟩ : ∃ i, t.due[k3]? = some i := ⟨_, List.getElem?_eq_getElem (by rw [HM.out]; exact hlt3)⟩
              have him : i ∈ t.due := List.mem_of_getElem? hik
              have hi : i < t.ch.length := HIN.out i him
              have hc := HT3.out.cells (HDC.out.keep HKj.out) (fun x hx => by have := HOB.out x hx; simp; omega)
              obtain ⟨dg, dO, dcap, hv, _, _, _⟩ := hc.ptr k3 (by rw [HM.out]; exact hlt3)
              injection hv with y1 y2 y3
              subst y1 y3
              rw [← HM.out] at hc
              have c7 := Cells.int hc k3 i hik
              clear hc y2
              obtain ⟨t3, ht3⟩ : ∃ t3, t.puts (t.due.take k3) = t3 := ⟨_, rfl⟩
              have hps := puts_ses t (t.due.take k3)
              have hsub : ∀ x ∈ t.due.take k3, x < t.ch.length := fun x hx => HIN.out x (List.mem_of_mem_take hx)
              have hover : t3.over i = false := by rw [← ht3, puts_next HND.out HIN.out k3 i hik]; exact HNO.out i him
              have hfe : t3.frame i = t.frame i := by rw [← ht3]; exact puts_frame t _ hsub i
              have hnext : t.puts (t.due.take (k3 + 1)) = t3.put i := by rw [puts_take t t.due k3 i hik, ht3]
              have hnow3 : t3.now = now + 1 := by rw [← ht3, hps.2.2.2.1]; exact honn
              have hch3 : t3.ch.length = N := by rw [← ht3, hps.2.2.2.2.2]; exact HCH.out
              rw [ht3] at HR3
              have hi3 : i < t3.ch.length := by rw [hch3, ← HCH.out]; exact hi
              have HE := Lib.hid (show (t.due.take (k3 + 1)).map t.frame = (t.due.take k3).map t.frame ++ [t3.frame i] by rw [List.take_add_one, hik, Option.toList_some, List.map_append, hfe]; rfl)
              have HML := Lib.hid (show ((t.due.take k3).map t.frame).length = k3 by rw [List.length_map, List.length_take, HM.out]; omega)
              clear hps hsub ht3 hfe him hik
              have HHO := Lib.hid hover
              have HNX := Lib.hid hnext
              clear hover hnext
              obtain ⟨T, hT⟩ : ∃ T, (t3.at i).tries = T := ⟨_, rfl⟩
              have hT8 : T < 8 := by
                have := HHO.out
                unfold Sd.over at this
                rw [decide_eq_false_iff_not, hT] at this
                omega
              have hr3 := HR3.out
              have c4 := hr3.t
              rw [hch3] at c4
              have ct := hr3.tries i hi3
              rw [hT] at ct
              have ft := hr3.freet i
              have hiN : i < N := by rw [← HCH.out]; exact hi
              have tA : Turn [bt] wr (wr.setCell ⟨bt, i, none⟩ (.int .i64 ((T : Int) + 1))) := Turn.setCell wr bt i _ (by simp)
              have hbA := tA.obj hr3.block (by simp; exact hn1)
              have haA := tA.obj hr3.la (by simp; exact Ne.symm hn3)
              have c5y : (wr.setCell ⟨bt, i, none⟩ (.int .i64 ((T : Int) + 1))).drew.cell? ⟨g, 5, none⟩ = some (.slice (some ⟨ba, 0, none⟩) N N) := by
                rw [← hch3]
                exact cell_obj (w := (wr.setCell ⟨bt, i, none⟩ (.int .i64 ((T : Int) + 1))).drew) hbA rfl
              have c6y : (wr.setCell ⟨bt, i, none⟩ (.int .i64 ((T : Int) + 1))).drew.cell? ⟨g, 6, none⟩ = some (.int .i64 ((t3.now : Nat) : Int)) := cell_obj (w := (wr.setCell ⟨bt, i, none⟩ (.int .i64 ((T : Int) + 1))).drew) hbA rfl
              have cay : (wr.setCell ⟨bt, i, none⟩ (.int .i64 ((T : Int) + 1))).drew.cell? ⟨ba, i, none⟩ = some (.int .i64 ((t3.at i).last : Nat)) := cell_obj (w := (wr.setCell ⟨bt, i, none⟩ (.int .i64 ((T : Int) + 1))).drew) haA (nc_get _ _ _ (laL_get t3 i hi3))
              have fay : (wr.setCell ⟨bt, i, none⟩ (.int .i64 ((T : Int) + 1))).drew.frozen? ⟨ba, i, none⟩ = false := by
                have : (wr.setCell ⟨bt, i, none⟩ (.int .i64 ((T : Int) + 1))).drew.heap[ba]? = some (.cells (nc (laL t3)) 3 (0, 0)) := haA
                simp [World.frozen?, this]
              have rB := hr3.setPut2 i hi3 HHO.out
              rw [hT, show ((T + 1 : Nat) : Int) = (T : Int) + 1 from rfl] at rB
              obtain ⟨y, hy⟩ : ∃ y, (wr.setCell ⟨bt, i, none⟩ (.int .i64 ((T : Int) + 1))).drew = y := ⟨_, rfl⟩
              have tY : Turn [bt, ba] wr y := by rw [← hy]; exact (tA.mono (by simp)).drew
              rw [hy] at c5y c6y cay fay rB
              have HYY := Lib.hid hy
              obtain ⟨yB, hyB⟩ : ∃ yB, y.setCell ⟨ba, i, none⟩ (.int .i64 ((t3.now : Nat) : Int)) = yB := ⟨_, rfl⟩
              have tB : Turn [bt, ba] wr yB := tY.trans (by rw [← hyB]; exact Turn.setCell y ba i _ (by simp))
              have tBa : Turn [ba] y yB := by rw [← hyB]; exact Turn.setCell y ba i _ (by simp)
              have hgB := tBa.obj (show y.heap[g]? = some (.cells (rc bt ba (some ⟨gc, oc, none⟩) cap (.slice (some ⟨gi, oi, none⟩) N icap) t3) 51 (0, 0)) by rw [← hy]; exact hbA) (by simp; exact hn2)
              have c5B : yB.cell? ⟨g, 5, none⟩ = some (.slice (some ⟨ba, 0, none⟩) t3.ch.length t3.ch.length) := cell_obj hgB rfl
              have c6B : yB.cell? ⟨g, 6, none⟩ = some (.int .i64 ((t3.now : Nat) : Int)) := cell_obj hgB rfl
              rw [hch3] at c5B
              rw [hyB] at rB
              have HYB := Lib.hid hyB
              have b5 : ∀ u : PW (Ph2 y yB), u.1.cell? ⟨g, 5, none⟩ = some (.slice (some ⟨ba, 0, none⟩) N N) := Ph2.all (X := fun v => v.cell? ⟨g, 5, none⟩ = some (.slice (some ⟨ba, 0, none⟩) N N)) c5y c5B
              have b6 : ∀ u : PW (Ph2 y yB), u.1.cell? ⟨g, 6, none⟩ = some (.int .i64 ((t3.now : Nat) : Int)) := Ph2.all (X := fun v => v.cell? ⟨g, 6, none⟩ = some (.int .i64 ((t3.now : Nat) : Int))) c6y c6B
              clear hgB hbA haA c5y c6y c5B c6B tA tY tBa hy hyB hr3
              have HT3B := Lib.hid (HT3.out.trans tB)
              have HO4 := Lib.hid (HO3.out.turn tB (by have := HOB; simp; have := hzw; omega))
              have HRB := Lib.hid rB
              have hf4 : t3.frame i = ⟨1, t3.ses, t3.ep, i, N, (t3.at i).data⟩ := by unfold Sd.frame; rw [hch3]
              have hdp : ((t3.put i).at i).data = (t3.at i).data := put_data t3 i i hi3
              have hcp : (t3.put i).ch.length = N := by rw [(put_ses t3 i).2.2.2.2.2]; exact hch3
              clear tB rB
              generalize t3.now = tn at *
              go_wp2_with fail
              refine wp_region_ph (A := isMade) (C := Ph2 y yB) (by kernel_rfl) (by kernel_rfl) (by kernel_rfl) HYY.out ?_
              repeat (first | (refine ph_quiet (by rfl) ?_; (first | go_big_quiet_step (fail) | quiet_step (fail)); refine wpQuiet_nil ?_) | (refine ph_check rfl ?_; simp only [Act.put, List.setIfInBounds_toArray, List.set_cons_zero, List.set_cons_succ]))
              refine ph_write rfl rfl (fun w1 => w1.setCell ⟨ba, i, none⟩ (.int .i64 ((tn : Nat) : Int))) (fun w1 hw => ?_) ?_
              · obtain rfl : w1 = y := hw
                refine ⟨?_, HYB.out⟩
                go_simp
              simp only [Act.put]
              refine ph_nil ?_
              intro w9 h9
              obtain rfl : w9 = yB := h9
              clear b5 b6 cay fay c4 ct ft c7 HYY HYB
              have hgl := HRj.out.lt
              have hbl := HRj.out.ltt
              have hal := HRj.out.lta
              have hil := HRj.out.lti
              have hxl := HRj.out.ltx
              have hzs := HT3B.out.size
              have rz := HRB.out.keep (Keep.refl w9).drew
              have oz := Own.keep HO4.out (Keep.refl w9).drew
              have tz := HT3B.out.drew
              have hzs2 := tz.size
              obtain ⟨z, hz⟩ : ∃ z, w9.drew = z := ⟨_, rfl⟩
              rw [hz] at rz oz tz hzs2
              have HZZ := Lib.hid hz
              obtain ⟨f, hf⟩ : ∃ f, t3.frame i = f := ⟨_, rfl⟩
              have HE2 := Lib.hid HE.out
              rw [hf] at HE2 hf4
              have kz : Keep z (z.alloc (.cells (fc f) 34)) := (Keep.refl z).alloc _
              obtain ⟨v', z2, hrun, hO', hG⟩ := app_run elF (z.alloc (.cells (fc f) 34)) wq.heap.size u8 ((t.due.take k3).map t.frame) [f] z.heap.size 1 (Own.keep oz kz) (frame_news z f) (by rw [HML.out]; simp; omega) (by rw [HML.out]; simp; omega) (by have := kz.size; omega)
              have hrow := fun x hx => (Own.block oz x hx).1
              have hlow := grown_low hG hrow hzs2
              have rz2 : R z2 g bt ba (some ⟨gc, oc, none⟩) cap (.slice (some ⟨gi, oi, none⟩) N icap) (t3.put i) := rz.low (Nat.le_trans kz.size hG.size) hlow hgl hbl hal hil (by rw [hcp]; rw [HCH.out] at hxl; exact hxl)
              have hR3 : ∀ u : PW (Ph3 z (z.alloc (.cells (fc f) 34)) z2), R u.1 g bt ba (some ⟨gc, oc, none⟩) cap (.slice (some ⟨gi, oi, none⟩) N icap) (t3.put i) := Ph3.all (X := fun v => R v g bt ba (some ⟨gc, oc, none⟩) cap (.slice (some ⟨gi, oi, none⟩) N icap) (t3.put i)) rz (rz.keep kz) rz2
              have a0 : ∀ u : PW (Ph3 z (z.alloc (.cells (fc f) 34)) z2), u.1.cell? ⟨g, 0, none⟩ = some (.int .i64 t3.ses) := fun u => (hR3 u).ses
              have a1 : ∀ u : PW (Ph3 z (z.alloc (.cells (fc f) 34)) z2), u.1.cell? ⟨g, 1, none⟩ = some (.int .i64 t3.ep) := fun u => (hR3 u).ep
              have a2 : ∀ u : PW (Ph3 z (z.alloc (.cells (fc f) 34)) z2), u.1.cell? ⟨g, 2, none⟩ = some (.slice (some ⟨gc, oc, none⟩) N cap) := fun u => by rw [(hR3 u).c, hcp]
              have a3 : ∀ u : PW (Ph3 z (z.alloc (.cells (fc f) 34)) z2), u.1.cell? ⟨gc, oc + i, none⟩ = some (.string ⟨(t3.at i).data.toArray⟩) := fun u => by rw [(hR3 u).datum i (by rw [hcp]; exact hiN), hdp]
              have HBF := Lib.hid (fun w => build_frame 1 t3.ses t3.ep i N (t3.at i).data w)
              rw [← hf4] at HBF
              have HSL := Lib.hid (slice_frame f z)
              have HRUN := Lib.hid hrun
              have HOF := Lib.hid hO'
              have HRF := Lib.hid rz2
              have HTF := Lib.hid ((tz.thenKeep kz).grown hG hrow)
              clear rz oz tz kz hrun hO' hG hrow hlow rz2 hR3 hf hf4 hz hgl hbl hal hil hxl hdp hcp
              generalize t3.ses = q1 at *
              generalize t3.ep = q2 at *
              generalize (t3.at i).data = q3 at *
              go_wp2_with fail
              refine wp_region_ph (A := isMade2) (C := Ph3 z (z.alloc (.cells (fc f) 34)) z2) (by kernel_rfl) (by kernel_rfl) (by kernel_rfl) HZZ.out ?_
              repeat (first | (refine ph_quiet (by rfl) ?_; (first | go_big_quiet_step (fail) | quiet_step (fail)); refine wpQuiet_nil ?_) | (refine ph_check rfl ?_; simp only [Act.put, List.setIfInBounds_toArray, List.set_cons_zero, List.set_cons_succ]))
              refine ph_build rfl 34 _ rfl _ rfl (.agg (fc f)) HBF.out ?_
              simp only [Act.put, List.setIfInBounds_toArray, List.set_cons_zero, List.set_cons_succ]
              refine ph_slice _ rfl rfl HSL.out (fun w1 hw => hw) rfl ?_
              simp only [Act.put, List.setIfInBounds_toArray, List.set_cons_zero, List.set_cons_succ]
              refine ph_app rfl rfl rfl HRUN.out (fun w1 hw => hw) rfl ?_
              simp only [Act.put, List.setIfInBounds_toArray, List.set_cons_zero, List.set_cons_succ]
              repeat (refine ph_quiet (by rfl) ?_; (first | go_big_quiet_step (fail) | quiet_step (fail)); refine wpQuiet_nil ?_)
              refine ph_nil ?_
              intro w10 h10
              obtain rfl : w10 = z2 := h10
              clear a0 a1 a2 a3 HZZ
              go_wp2
              go_roundw
              case rel => exact ⟨k3 + 1, by go_num, by rw [HM.out]; omega, by rw [HE2.out]; exact HOF.out, by rw [HNX.out]; exact HRF.out, HTF.out⟩
              case measure => simp [intOf]; omega
      · have e1 : decide ((k : Int) < (B : Int) + 8) = false := decide_eq_false (by omega)
        clear hlt
        go_wp2_with fail
        generalize wr = wi at *
        clear c2
        go_loopw [7] (fun iv wr => LqRel t wi iv wr) (fun i _ => 300 - (intOf i).toNat)
        case atStart => exact ⟨0, rfl, Nat.zero_le _, by simp, Keep.refl _⟩
        case round =>
          obtain ⟨j, rfl, hj, hall, hKj⟩ := hrel
          rw [HM.out] at hj
          have HALL := Lib.hid hall
          have HKj := Lib.hid hKj
          clear hall hKj
          by_cases hjm : j < M
          · obtain ⟨i, hik⟩ : ∃ i, t.due[j]? = some i := ⟨_, List.getElem?_eq_getElem (by rw [HM.out]; exact hjm)⟩
            have him : i ∈ t.due := List.mem_of_getElem? hik
            have hi : i < t.ch.length := HIN.out i him
            have hc := HDC.out.keep HKj.out
            obtain ⟨dg, dO, dcap, hv, _, _, _⟩ := hc.ptr j (by rw [HM.out]; exact hjm)
            injection hv with y1 y2 y3
            subst y1 y3
            have hRj := HRw.out.keep HKj.out
            have ac : ∀ u : KW wr, u.1.cell? ⟨dg, dO + j, none⟩ = some (.int .i64 (i : Nat)) := fun u => Cells.int (by rw [HM.out]; exact hc.keep u.2) j i hik
            have a4 : ∀ u : KW wr, u.1.cell? ⟨g, 4, none⟩ = some (.slice (some ⟨bt, 0, none⟩) N N) := fun u => by rw [(hRj.keep u.2).t, HCH.out]
            have at1 : ∀ u : KW wr, u.1.cell? ⟨bt, i, none⟩ = some (.int .i64 ((t.at i).tries : Nat)) := fun u => (hRj.keep u.2).tries i hi
            have hT8 := HRw.out.good.tries i
            have hov : t.over i = decide (8 ≤ (t.at i).tries) := rfl
            have hiN : i < N := by rw [← HCH.out]; exact hi
            clear hc y2
            by_cases ho : t.over i = true
            · have HA := Lib.hid (show t.due.any t.over = true from List.any_eq_true.2 ⟨i, him, ho⟩)
              have hE : (t.at i).tries = 8 := by rw [hov, decide_eq_true_eq] at ho; omega
              rw [hE] at at1
              clear him ho hE hov hT8
              go_wp2_with fail
              refine wp_region_keep (Keep.refl _) (by kernel_rfl) (by kernel_rfl) ?_
              repeat (first | go_big_quiet_step (fail) | quiet_step (fail))
              refine wpQuiet_nil ?_
              rintro v4 ⟨⟨v5, q5⟩, hv⟩
              obtain rfl : v5 = v4 := hv.symm
              have hR5 := hRj.keep q5
              have c7 := hR5.lost
              have f7 := hR5.free 7
              have HG := Lib.hid hR5.setGone
              have HT := Lib.hid (((HT1.out.thenKeep (HK.out.trans HKj.out)).thenKeep q5).trans (Turn.setCell v5 g 7 (.bool true) (by simp)))
              clear hv ac a4 at1 q5 hR5 hRj
              go_wp2
              go_ret2
              refine ⟨.slice none 0 0, ?_, ?_, ?_, HT.out⟩
              · rfl
              · exact Own.nil _ _
              · exact HG.out
            · have ho2 : t.over i = false := by simpa using ho
              have hE : ¬ (t.at i).tries = 8 := by intro hq; rw [hov, hq] at ho; simp at ho
              have hE2 : (((t.at i).tries : Int) == 8) = false := by simpa using (by omega : ¬ ((t.at i).tries : Int) = 8)
              have HALL2 := Lib.hid (show ∀ x ∈ t.due.take (j + 1), t.over x = false from fun x hx => by
                rw [List.take_add_one, hik, Option.toList_some, List.mem_append] at hx
                rcases hx with hx | hx
                · exact HALL.out x hx
                · simp at hx; rw [hx]; exact ho2)
              clear him ho ho2 hE hov
              generalize (t.at i).tries = T at *
              go_wp2_with fail
              refine wp_region_keep (Keep.refl _) (by kernel_rfl) (by kernel_rfl) ?_
              repeat (first | go_big_quiet_step (fail) | quiet_step (fail))
              refine wpQuiet_nil ?_
              rintro v4 ⟨⟨v5, q5⟩, hv⟩
              obtain rfl : v5 = v4 := hv.symm
              have HK5 := Lib.hid (HKj.out.trans q5)
              clear hv ac a4 at1 q5 hRj
              go_wp2
              go_roundw
              case rel => exact ⟨j + 1, by go_num, by rw [HM.out]; omega, HALL2.out, HK5.out⟩
              case measure => simp [intOf]; omega
          · obtain rfl : j = M := by omega
            have hnone : ∀ x ∈ t.due, t.over x = false := fun x hx => HALL.out x (by rw [List.take_of_length_le (by rw [HM.out]; exact Nat.le_refl _)]; exact hx)
            have HA := Lib.hid (show ¬ t.due.any t.over = true from fun h => by
              obtain ⟨x, hx, ho⟩ := List.any_eq_true.1 h
              rw [hnone x hx] at ho
              cases ho)
            have HNO := Lib.hid hnone
            have HRj := Lib.hid (HRw.out.keep HKj.out)
            clear hnone HALL hjm
            go_wp2_with fail
            have hzw := (HK.out.trans HKj.out).size
            generalize wr = wq at *
            go_loopw [8, 9] (fun v iv wr => SqRel g bt ba (some ⟨gc, oc, none⟩) cap (.slice (some ⟨gi, oi, none⟩) N icap) t wq v iv wr) (fun _ i _ => 300 - (intOf i).toNat)
            case atStart => exact ⟨0, rfl, Nat.zero_le _, Own.nil _ _, HRj.out, Turn.refl _ _⟩
            case round =>
              obtain ⟨k3, rfl, hk3, hO3, hR3, hT3⟩ := hrel
              rw [HM.out] at hk3
              have HO3 := Lib.hid hO3
              have HT3 := Lib.hid hT3
              have HR3 := Lib.hid hR3
              clear hO3 hT3 hR3
              by_cases hlt3 : k3 < j
              rotate_left
              · obtain rfl : k3 = j := by omega
                have HE := Lib.hid (show t.due.take k3 = t.due from List.take_of_length_le (by rw [HM.out]; exact Nat.le_refl _))
                go_wp2
                go_ret2
                refine ⟨u8, ?_, ?_, ?_, (HT1.out.thenKeep (HK.out.trans HKj.out)).trans (HT3.out.mono (by simp))⟩
                · rfl
                · rw [← HE.out]; exact HO3.out.low (by omega)
                · rw [← HE.out]; exact HR3.out
              obtain ⟨i, hik⟩ : ∃ i, t.due[k3]? = some i := ⟨_, List.getElem?_eq_getElem (by rw [HM.out]; exact hlt3)⟩
              have him : i ∈ t.due := List.mem_of_getElem? hik
              have hi : i < t.ch.length := HIN.out i him
              have hc := HT3.out.cells (HDC.out.keep HKj.out) (fun x hx => by have := HOB.out x hx; simp; omega)
              obtain ⟨dg, dO, dcap, hv, _, _, _⟩ := hc.ptr k3 (by rw [HM.out]; exact hlt3)
              injection hv with y1 y2 y3
              subst y1 y3
              rw [← HM.out] at hc
              have c7 := Cells.int hc k3 i hik
              clear hc y2
              obtain ⟨t3, ht3⟩ : ∃ t3, t.puts (t.due.take k3) = t3 := ⟨_, rfl⟩
              have hps := puts_ses t (t.due.take k3)
              have hsub : ∀ x ∈ t.due.take k3, x < t.ch.length := fun x hx => HIN.out x (List.mem_of_mem_take hx)
              have hover : t3.over i = false := by rw [← ht3, puts_next HND.out HIN.out k3 i hik]; exact HNO.out i him
              have hfe : t3.frame i = t.frame i := by rw [← ht3]; exact puts_frame t _ hsub i
              have hnext : t.puts (t.due.take (k3 + 1)) = t3.put i := by rw [puts_take t t.due k3 i hik, ht3]
              have hnow3 : t3.now = now + 1 := by rw [← ht3, hps.2.2.2.1]; exact honn
              have hch3 : t3.ch.length = N := by rw [← ht3, hps.2.2.2.2.2]; exact HCH.out
              rw [ht3] at HR3
              have hi3 : i < t3.ch.length := by rw [hch3, ← HCH.out]; exact hi
              have HE := Lib.hid (show (t.due.take (k3 + 1)).map t.frame = (t.due.take k3).map t.frame ++ [t3.frame i] by rw [List.take_add_one, hik, Option.toList_some, List.map_append, hfe]; rfl)
              have HML := Lib.hid (show ((t.due.take k3).map t.frame).length = k3 by rw [List.length_map, List.length_take, HM.out]; omega)
              clear hps hsub ht3 hfe him hik
              have HHO := Lib.hid hover
              have HNX := Lib.hid hnext
              clear hover hnext
              obtain ⟨T, hT⟩ : ∃ T, (t3.at i).tries = T := ⟨_, rfl⟩
              have hT8 : T < 8 := by
                have := HHO.out
                unfold Sd.over at this
                rw [decide_eq_false_iff_not, hT] at this
                omega
              have hr3 := HR3.out
              have c4 := hr3.t
              rw [hch3] at c4
              have ct := hr3.tries i hi3
              rw [hT] at ct
              have ft := hr3.freet i
              have hiN : i < N := by rw [← HCH.out]; exact hi
              have tA : Turn [bt] wr (wr.setCell ⟨bt, i, none⟩ (.int .i64 ((T : Int) + 1))) := Turn.setCell wr bt i _ (by simp)
              have hbA := tA.obj hr3.block (by simp; exact hn1)
              have haA := tA.obj hr3.la (by simp; exact Ne.symm hn3)
              have c5y : (wr.setCell ⟨bt, i, none⟩ (.int .i64 ((T : Int) + 1))).drew.cell? ⟨g, 5, none⟩ = some (.slice (some ⟨ba, 0, none⟩) N N) := by
                rw [← hch3]
                exact cell_obj (w := (wr.setCell ⟨bt, i, none⟩ (.int .i64 ((T : Int) + 1))).drew) hbA rfl
              have c6y : (wr.setCell ⟨bt, i, none⟩ (.int .i64 ((T : Int) + 1))).drew.cell? ⟨g, 6, none⟩ = some (.int .i64 ((t3.now : Nat) : Int)) := cell_obj (w := (wr.setCell ⟨bt, i, none⟩ (.int .i64 ((T : Int) + 1))).drew) hbA rfl
              have cay : (wr.setCell ⟨bt, i, none⟩ (.int .i64 ((T : Int) + 1))).drew.cell? ⟨ba, i, none⟩ = some (.int .i64 ((t3.at i).last : Nat)) := cell_obj (w := (wr.setCell ⟨bt, i, none⟩ (.int .i64 ((T : Int) + 1))).drew) haA (nc_get _ _ _ (laL_get t3 i hi3))
              have fay : (wr.setCell ⟨bt, i, none⟩ (.int .i64 ((T : Int) + 1))).drew.frozen? ⟨ba, i, none⟩ = false := by
                have : (wr.setCell ⟨bt, i, none⟩ (.int .i64 ((T : Int) + 1))).drew.heap[ba]? = some (.cells (nc (laL t3)) 3 (0, 0)) := haA
                simp [World.frozen?, this]
              have rB := hr3.setPut2 i hi3 HHO.out
              rw [hT, show ((T + 1 : Nat) : Int) = (T : Int) + 1 from rfl] at rB
              obtain ⟨y, hy⟩ : ∃ y, (wr.setCell ⟨bt, i, none⟩ (.int .i64 ((T : Int) + 1))).drew = y := ⟨_, rfl⟩
              have tY : Turn [bt, ba] wr y := by rw [← hy]; exact (tA.mono (by simp)).drew
              rw [hy] at c5y c6y cay fay rB
              have HYY := Lib.hid hy
              obtain ⟨yB, hyB⟩ : ∃ yB, y.setCell ⟨ba, i, none⟩ (.int .i64 ((t3.now : Nat) : Int)) = yB := ⟨_, rfl⟩
              have tB : Turn [bt, ba] wr yB := tY.trans (by rw [← hyB]; exact Turn.setCell y ba i _ (by simp))
              have tBa : Turn [ba] y yB := by rw [← hyB]; exact Turn.setCell y ba i _ (by simp)
              have hgB := tBa.obj (show y.heap[g]? = some (.cells (rc bt ba (some ⟨gc, oc, none⟩) cap (.slice (some ⟨gi, oi, none⟩) N icap) t3) 51 (0, 0)) by rw [← hy]; exact hbA) (by simp; exact hn2)
              have c5B : yB.cell? ⟨g, 5, none⟩ = some (.slice (some ⟨ba, 0, none⟩) t3.ch.length t3.ch.length) := cell_obj hgB rfl
              have c6B : yB.cell? ⟨g, 6, none⟩ = some (.int .i64 ((t3.now : Nat) : Int)) := cell_obj hgB rfl
              rw [hch3] at c5B
              rw [hyB] at rB
              have HYB := Lib.hid hyB
              have b5 : ∀ u : PW (Ph2 y yB), u.1.cell? ⟨g, 5, none⟩ = some (.slice (some ⟨ba, 0, none⟩) N N) := Ph2.all (X := fun v => v.cell? ⟨g, 5, none⟩ = some (.slice (some ⟨ba, 0, none⟩) N N)) c5y c5B
              have b6 : ∀ u : PW (Ph2 y yB), u.1.cell? ⟨g, 6, none⟩ = some (.int .i64 ((t3.now : Nat) : Int)) := Ph2.all (X := fun v => v.cell? ⟨g, 6, none⟩ = some (.int .i64 ((t3.now : Nat) : Int))) c6y c6B
              clear hgB hbA haA c5y c6y c5B c6B tA tY tBa hy hyB hr3
              have HT3B := Lib.hid (HT3.out.trans tB)
              have HO4 := Lib.hid (HO3.out.turn tB (by have := HOB; simp; have := hzw; omega))
              have HRB := Lib.hid rB
              have hf4 : t3.frame i = ⟨1, t3.ses, t3.ep, i, N, (t3.at i).data⟩ := by unfold Sd.frame; rw [hch3]
              have hdp : ((t3.put i).at i).data = (t3.at i).data := put_data t3 i i hi3
              have hcp : (t3.put i).ch.length = N := by rw [(put_ses t3 i).2.2.2.2.2]; exact hch3
              clear tB rB
              generalize t3.now = tn at *
              go_wp2_with fail
              refine wp_region_ph (A := isMade) (C := Ph2 y yB) (by kernel_rfl) (by kernel_rfl) (by kernel_rfl) HYY.out ?_
              repeat (first | (refine ph_quiet (by rfl) ?_; (first | go_big_quiet_step (fail) | quiet_step (fail)); refine wpQuiet_nil ?_) | (refine ph_check rfl ?_; simp only [Act.put, List.setIfInBounds_toArray, List.set_cons_zero, List.set_cons_succ]))
              refine ph_write rfl rfl (fun w1 => w1.setCell ⟨ba, i, none⟩ (.int .i64 ((tn : Nat) : Int))) (fun w1 hw => ?_) ?_
              · obtain rfl : w1 = y := hw
                refine ⟨?_, HYB.out⟩
                go_simp
              simp only [Act.put]
              refine ph_nil ?_
              intro w9 h9
              obtain rfl : w9 = yB := h9
              clear b5 b6 cay fay c4 ct ft c7 HYY HYB
              have hgl := HRj.out.lt
              have hbl := HRj.out.ltt
              have hal := HRj.out.lta
              have hil := HRj.out.lti
              have hxl := HRj.out.ltx
              have hzs := HT3B.out.size
              have rz := HRB.out.keep (Keep.refl w9).drew
              have oz := Own.keep HO4.out (Keep.refl w9).drew
              have tz := HT3B.out.drew
              have hzs2 := tz.size
              obtain ⟨z, hz⟩ : ∃ z, w9.drew = z := ⟨_, rfl⟩
              rw [hz] at rz oz tz hzs2
              have HZZ := Lib.hid hz
              obtain ⟨f, hf⟩ : ∃ f, t3.frame i = f := ⟨_, rfl⟩
              have HE2 := Lib.hid HE.out
              rw [hf] at HE2 hf4
              have kz : Keep z (z.alloc (.cells (fc f) 34)) := (Keep.refl z).alloc _
              obtain ⟨v', z2, hrun, hO', hG⟩ := app_run elF (z.alloc (.cells (fc f) 34)) wq.heap.size u8 ((t.due.take k3).map t.frame) [f] z.heap.size 1 (Own.keep oz kz) (frame_news z f) (by rw [HML.out]; simp; omega) (by rw [HML.out]; simp; omega) (by have := kz.size; omega)
              have hrow := fun x hx => (Own.block oz x hx).1
              have hlow := grown_low hG hrow hzs2
              have rz2 : R z2 g bt ba (some ⟨gc, oc, none⟩) cap (.slice (some ⟨gi, oi, none⟩) N icap) (t3.put i) := rz.low (Nat.le_trans kz.size hG.size) hlow hgl hbl hal hil (by rw [hcp]; rw [HCH.out] at hxl; exact hxl)
              have hR3 : ∀ u : PW (Ph3 z (z.alloc (.cells (fc f) 34)) z2), R u.1 g bt ba (some ⟨gc, oc, none⟩) cap (.slice (some ⟨gi, oi, none⟩) N icap) (t3.put i) := Ph3.all (X := fun v => R v g bt ba (some ⟨gc, oc, none⟩) cap (.slice (some ⟨gi, oi, none⟩) N icap) (t3.put i)) rz (rz.keep kz) rz2
              have a0 : ∀ u : PW (Ph3 z (z.alloc (.cells (fc f) 34)) z2), u.1.cell? ⟨g, 0, none⟩ = some (.int .i64 t3.ses) := fun u => (hR3 u).ses
              have a1 : ∀ u : PW (Ph3 z (z.alloc (.cells (fc f) 34)) z2), u.1.cell? ⟨g, 1, none⟩ = some (.int .i64 t3.ep) := fun u => (hR3 u).ep
              have a2 : ∀ u : PW (Ph3 z (z.alloc (.cells (fc f) 34)) z2), u.1.cell? ⟨g, 2, none⟩ = some (.slice (some ⟨gc, oc, none⟩) N cap) := fun u => by rw [(hR3 u).c, hcp]
              have a3 : ∀ u : PW (Ph3 z (z.alloc (.cells (fc f) 34)) z2), u.1.cell? ⟨gc, oc + i, none⟩ = some (.string ⟨(t3.at i).data.toArray⟩) := fun u => by rw [(hR3 u).datum i (by rw [hcp]; exact hiN), hdp]
              have HBF := Lib.hid (fun w => build_frame 1 t3.ses t3.ep i N (t3.at i).data w)
              rw [← hf4] at HBF
              have HSL := Lib.hid (slice_frame f z)
              have HRUN := Lib.hid hrun
              have HOF := Lib.hid hO'
              have HRF := Lib.hid rz2
              have HTF := Lib.hid ((tz.thenKeep kz).grown hG hrow)
              clear rz oz tz kz hrun hO' hG hrow hlow rz2 hR3 hf hf4 hz hgl hbl hal hil hxl hdp hcp
              generalize t3.ses = q1 at *
              generalize t3.ep = q2 at *
              generalize (t3.at i).data = q3 at *
              go_wp2_with fail
              refine wp_region_ph (A := isMade2) (C := Ph3 z (z.alloc (.cells (fc f) 34)) z2) (by kernel_rfl) (by kernel_rfl) (by kernel_rfl) HZZ.out ?_
              repeat (first | (refine ph_quiet (by rfl) ?_; (first | go_big_quiet_step (fail) | quiet_step (fail)); refine wpQuiet_nil ?_) | (refine ph_check rfl ?_; simp only [Act.put, List.setIfInBounds_toArray, List.set_cons_zero, List.set_cons_succ]))
              refine ph_build rfl 34 _ rfl _ rfl (.agg (fc f)) HBF.out ?_
              simp only [Act.put, List.setIfInBounds_toArray, List.set_cons_zero, List.set_cons_succ]
              refine ph_slice _ rfl rfl HSL.out (fun w1 hw => hw) rfl ?_
              simp only [Act.put, List.setIfInBounds_toArray, List.set_cons_zero, List.set_cons_succ]
              refine ph_app rfl rfl rfl HRUN.out (fun w1 hw => hw) rfl ?_
              simp only [Act.put, List.setIfInBounds_toArray, List.set_cons_zero, List.set_cons_succ]
              repeat (refine ph_quiet (by rfl) ?_; (first | go_big_quiet_step (fail) | quiet_step (fail)); refine wpQuiet_nil ?_)
              refine ph_nil ?_
              intro w10 h10
              obtain rfl : w10 = z2 := h10
              clear a0 a1 a2 a3 HZZ
              go_wp2
              go_roundw
              case rel => exact ⟨k3 + 1, by go_num, by rw [HM.out]; omega, by rw [HE2.out]; exact HOF.out, by rw [HNX.out]; exact HRF.out, HTF.out⟩
              case measure => simp [intOf]; omega
end
end Go.Proofs.YtcnaaoakcmdfkaaDoor
