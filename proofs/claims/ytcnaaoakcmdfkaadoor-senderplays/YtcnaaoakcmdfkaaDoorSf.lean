/- Proved: what the sender's Tick answers, and what it does to memory. Condition: the sender lies in memory (S); there were at most a million ticks. -/
import Derived.Test.YtcnaaoakcmdfkaaDoorSe
namespace Go.Proofs.YtcnaaoakcmdfkaaDoor
open Go.RowKit

theorem take_nodup {D : List Nat} (h : D.Nodup) (k i : Nat) (hk : D[k]? = some i) : i ∉ D.take k := by
  obtain ⟨hl, he⟩ := List.getElem?_eq_some_iff.1 hk
  intro hm
  rw [List.mem_iff_getElem] at hm
  obtain ⟨j, hj, hji⟩ := hm
  rw [List.length_take] at hj
  rw [List.getElem_take] at hji
  exact List.pairwise_iff_getElem.1 h j k (by omega) hl (by omega) (hji.trans he.symm)
theorem puts_next {s : Sd} {D : List Nat} (hn : D.Nodup) (hd : ∀ i ∈ D, i < s.ch.length) (k i : Nat) (hk : D[k]? = some i) : (s.puts (D.take k)).over i = s.over i := by
  unfold Sd.over
  rw [puts_at s (D.take k) (hn.sublist (List.take_sublist k D)) (fun x hx => hd x (List.mem_of_mem_take hx)) i, if_neg (take_nodup hn k i hk)]
theorem S.low {b bm bc B : Nat} {s : Sd} {w w' : World} (h : S w b bm bc s) (e : ∀ k, k < B → w'.heap[k]? = w.heap[k]?) (h1 : b < B) (h2 : bm < B) (h3 : bc < B) : S w' b bm bc s :=
  ⟨(e b h1).trans h.block, (e bc h3).trans h.chunks, ⟨(e bm h2).trans h.map.block, h.map.pos, h.map.few, h.map.tab.of_block (e 0 (by omega))⟩, h.pos, h.posc, h.ne1, h.ne2, h.ne3, h.good⟩
theorem grown_low {w w' : World} {o : Obj} {row : Option Nat} {B : Nat} (hg : (w.alloc o).grownBy w' row) (hrow : ∀ k, row = some k → B ≤ k) (hB : B ≤ w.heap.size) : ∀ k, k < B → w'.heap[k]? = w.heap[k]? := fun k hk => by
  have k1 : Keep w (w.alloc o) := (Keep.refl w).alloc o
  rw [hg.block k (Nat.lt_of_lt_of_le (Nat.lt_of_lt_of_le hk hB) k1.size) (fun e => by have := hrow k e.symm; omega), k1.block k (by omega)]
def LkRel (s : Sd) (D : List Nat) (w iv : Value) (W wr : World) : Prop :=
  wr = W ∧ w = w ∧ ∃ k : Nat, iv = .int .i64 k ∧ k ≤ D.length ∧ ∀ i ∈ D.take k, s.over i = false
def SnRel (b bm bc : Nat) (s : Sd) (D : List Nat) (W : World) (v iv : Value) (wr : World) : Prop :=
  ∃ k : Nat, iv = .int .i64 k ∧ k ≤ D.length ∧ OwnF W.heap.size wr v ((D.take k).map s.frame) ∧ S wr b bm bc (s.puts (D.take k)) ∧ Turn [bc] W wr
section
variable {b bm bc : Nat} {s : Sd} {w : World}
set_option maxRecDepth 100000 in
set_option maxHeartbeats 2000000 in
theorem step_at (h : S w b bm bc s) (hnow : s.now ≤ 1000000) : Calls Tryd.prog 32 #[.pointer (some ⟨b, 0, none⟩)] w fun e w' =>
    ∃ v, e = .returned (.tuple #[v, .int .i64 (if s.on.due.any s.on.over = true then 16 else 0 : Nat)]) ∧ OwnF w.heap.size w' v (if s.on.due.any s.on.over = true then [] else s.on.due.map s.on.frame) ∧ S w' b bm bc (if s.on.due.any s.on.over = true then s.on.gone else s.on.puts s.on.due) ∧ Turn [b, bc] w w' := by
  have c4 := h.now
  have f4 := h.free 4
  have hs1 := h.setOn
  have ht1 : Turn [b, bc] w (w.setCell ⟨b, 4, none⟩ (.int .i64 (s.now + 1 : Nat))) := Turn.setCell w b 4 _ (by simp)
  rw [show ((s.now + 1 : Nat) : Int) = (s.now : Int) + 1 from rfl] at hs1 ht1
  have HDue := Lib.hid (due_at hs1 (by show s.now + 1 ≤ _; omega))
  have HS1 := Lib.hid hs1
  have HT1 := Lib.hid ht1
  have hs0 := ht1.size
  have hb := h.lt
  have hbc := h.ltc
  clear h hs1 ht1
  generalize s.on = t at *
  generalize s.now = now at *
  go_enter Tryd.func32, Tryd.ntmps32
  go_wp2_with fail
  generalize hw1 : w.setCell ⟨b, 4, none⟩ (.int .i64 ((now : Int) + 1)) = w1 at *
  refine HDue.out.mono ?_
  rintro e w2 ⟨dv, rfl, hod, k2⟩
  have hdc := (Own.row elI hod).cells
  obtain ⟨da, dcap, rfl, _, _⟩ := hdc.form
  have HDC := Lib.hid hdc
  have HS2 := Lib.hid (HS1.out.keep k2)
  have HT2 := Lib.hid (HT1.out.thenKeep k2)
  have HND := Lib.hid (due_nodup t)
  have HIN := Lib.hid HS1.out.good.due
  have hdl := due_len t
  have hlf : t.l.length ≤ 256 := HS1.out.map.few
  have hsz2 := HT2.out.size
  clear hdc HDue HS1 HT1 k2 hw1
  obtain ⟨N, hN⟩ : ∃ N, t.due.length = N := ⟨_, rfl⟩
  rw [hN] at hdl ⊢
  have HN := Lib.hid hN
  clear hN
  go_wp2_with fail
  go_loopw [21] (fun iv wr => LkRel t t.due iv iv w2 wr) (fun i _ => 300 - (intOf i).toNat)
  case atStart => exact ⟨rfl, rfl, 0, rfl, Nat.zero_le _, by simp⟩
  case round =>
    obtain ⟨rfl, _, k, rfl, hk, hall⟩ := hrel
    rw [HN.out] at hk
    have HALL := Lib.hid hall
    clear hall
    by_cases hlt : k < N
    · obtain ⟨i, hik⟩ : ∃ i, t.due[k]? = some i := ⟨_, List.getElem?_eq_getElem (by rw [HN.out]; exact hlt)⟩
      have him : i ∈ t.due := List.mem_of_getElem? hik
      have hi : i < t.ch.length := HIN.out i him
      have hc := HDC.out
      obtain ⟨g, o, cap, hv, _, _, _⟩ := hc.ptr k (by rw [HN.out]; exact hlt)
      injection hv with e1 e2 e3
      subst e1 e3
      have c7 := Cells.int hc k i hik
      clear hc e2
      have c3 := HS2.out.list
      have ct := HS2.out.tries i hi
      by_cases ho : t.over i = true
      · have HA := Lib.hid (show t.due.any t.over = true from List.any_eq_true.2 ⟨i, him, ho⟩)
        have hge : ((t.at i).tries : Int) ≥ 8 := by unfold Sd.over at ho; rw [decide_eq_true_eq] at ho; omega
        have c5 := HS2.out.lost
        have f5 := HS2.out.free 5
        have HG := Lib.hid HS2.out.setGone
        have HT := Lib.hid (HT2.out.trans (Turn.setCell wr b 5 (.bool true) (by simp)))
        clear him ho
        generalize (t.at i).tries = T at *
        generalize t.ch.length = M at *
        go_wp2
        go_ret2
        refine ⟨.slice none 0 0, ?_, ?_, ?_, HT.out⟩
        · rfl
        · exact Own.nil _ _
        · exact HG.out
      · have ho2 : t.over i = false := by simpa using ho
        have hge : ¬ ((t.at i).tries : Int) ≥ 8 := by unfold Sd.over at ho; rw [decide_eq_true_eq] at ho; omega
        have HALL2 := Lib.hid (show ∀ x ∈ t.due.take (k + 1), t.over x = false from fun x hx => by
          rw [List.take_add_one, hik, Option.toList_some, List.mem_append] at hx
          rcases hx with hx | hx
          · exact HALL.out x hx
          · simp at hx; rw [hx]; exact ho2)
        clear him ho ho2
        generalize (t.at i).tries = T at *
        generalize t.ch.length = M at *
        go_wp2
        go_roundw
        case rel => exact ⟨rfl, rfl, k + 1, by go_num, by rw [HN.out]; omega, HALL2.out⟩
        case measure => simp [intOf]; omega
    · obtain rfl : k = N := by omega
      have hnone : ∀ x ∈ t.due, t.over x = false := fun x hx => HALL.out x (by rw [List.take_of_length_le (by rw [HN.out]; exact Nat.le_refl _)]; exact hx)
      have HA := Lib.hid (show ¬ t.due.any t.over = true from fun h => by
        obtain ⟨x, hx, ho⟩ := List.any_eq_true.1 h
        rw [hnone x hx] at ho
        cases ho)
      have HNO := Lib.hid hnone
      clear hnone HALL hlt hk
      go_wp2_with fail
      generalize wr = wi at *
      go_loopw [7, 40] (fun v iv wr => SnRel b bm bc t t.due wi v iv wr) (fun _ i _ => 300 - (intOf i).toNat)
      case atStart => exact ⟨0, rfl, Nat.zero_le _, Own.nil _ _, HS2.out, Turn.refl _ _⟩
      case round =>
        obtain ⟨k2, rfl, hk2, hO, hS, hT⟩ := hrel
        rw [HN.out] at hk2
        have HO := Lib.hid hO
        have HS := Lib.hid hS
        have HT := Lib.hid hT
        clear hO hS hT
        by_cases hlt : k2 < k
        · obtain ⟨i, hik⟩ : ∃ i, t.due[k2]? = some i := ⟨_, List.getElem?_eq_getElem (by rw [HN.out]; exact hlt)⟩
          have him : i ∈ t.due := List.mem_of_getElem? hik
          have hi : i < t.ch.length := HIN.out i him
          have hc := Turn.cells HT.out HDC.out (fun g hg => by have := (hod.block g hg).1; simp; omega)
          obtain ⟨g, o, cap, hv, _, _, _⟩ := hc.ptr k2 (by rw [HN.out]; exact hlt)
          injection hv with e1 e2 e3
          subst e1 e3
          have c7 := Cells.int hc k2 i hik
          clear hc e2
          have hsub : ∀ x ∈ t.due.take k2, x < t.ch.length := fun x hx => HIN.out x (List.mem_of_mem_take hx)
          have hlen := (puts_ses t (t.due.take k2)).2.2.2.2.2
          have hsend := send_at HS.out i (by rw [hlen]; exact hi) (by rw [puts_next HND.out HIN.out k2 i hik]; exact HNO.out i him)
          rw [puts_frame t _ hsub i, ← puts_take t t.due k2 i hik] at hsend
          have HSend := Lib.hid hsend
          have HE := Lib.hid (show (t.due.take (k2 + 1)).map t.frame = (t.due.take k2).map t.frame ++ [t.frame i] by rw [List.take_add_one, hik, Option.toList_some, List.map_append]; rfl)
          have HSL := Lib.hid (slice_frame (t.frame i))
          have HOF := Lib.hid (fun w => one_frame w (t.frame i))
          have HML := Lib.hid (show ((t.due.take k2).map t.frame).length = k2 by rw [List.length_map, List.length_take, HN.out]; omega)
          clear hsub hlen hsend him hik
          generalize t.frame i = f at *
          go_wp2_with fail
          refine HSend.out.mono ?_
          rintro e w5 ⟨rfl, s5, t5⟩
          have HS5 := Lib.hid s5
          have HT5 := Lib.hid (HT.out.trans t5)
          have HO5 := Lib.hid (HO.out.turn t5 (by simp; omega))
          clear s5 t5 c7 HSend
          go_wp2_with (first | (refine at_slice [(0, .agg (fc f))] rfl _ (HSL.out _) ?_) | (at_builtin; refine wp_app elF rfl _ _ rfl wi.heap.size _ _ ((t.due.take k2).map t.frame) [f] rfl rfl (HO5.out.keep ((Keep.refl _).alloc _)) (HOF.out w5) ?q1 ?q2 ?q3 ?_))
          case q1 => rw [HML.out]; simp; omega
          case q2 => rw [HML.out]; simp; omega
          case q3 => have := HT5.out.size; simp; omega
          intro v' w6 hO6 hG
          have HO6 := Lib.hid hO6
          have hrow := fun g hg => (HO5.out.block g hg).1
          have HS6 := Lib.hid (HS5.out.low (grown_low hG hrow HT5.out.size) (by omega) (by have := HS2.out.map.lt; omega) (by omega))
          have HT6 := Lib.hid ((HT5.out.thenKeep ((Keep.refl w5).alloc _)).grown hG hrow)
          clear hO6 hG hrow
          go_wp2
          go_roundw
          case rel => exact ⟨k2 + 1, by go_num, by rw [HN.out]; omega, by rw [HE.out, List.map_take]; exact HO6.out, HS6.out, HT6.out⟩
          case measure => simp [intOf]; omega
        · obtain rfl : k2 = k := by omega
          have HE := Lib.hid (show t.due.take k2 = t.due from List.take_of_length_le (by rw [HN.out]; exact Nat.le_refl _))
          go_wp2
          go_ret2
          refine ⟨u7, ?_, ?_, ?_, HT2.out.trans (HT.out.mono (by simp))⟩
          · rfl
          · rw [← HE.out]; exact HO.out.low hsz2
          · rw [← HE.out]; exact HS.out
end
end Go.Proofs.YtcnaaoakcmdfkaaDoor
