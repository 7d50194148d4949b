/- Proved: what table's All, Between, putWhere, withdraw and Do answer. Condition: the table lies in memory, or is none. -/
import Derived.Test.YtgocmolebanflaaQ
namespace Go.Proofs.Ytgocmolebanflaa
open Go.RowKit

theorem at_buildG {P : Program} {ops : Array Oper} {rest : List Oper} {a : Act} {Q : Exit → Act → World → Prop} {w : World} {dst : Option Tmp} {t ty : TypeId} {pos : String} {after : Array Edge} {parts : Array (Nat × Operand)} {gd : Nat × Bool} (L : List (Nat × Value))
    (hw : Region.wanted { dst := dst, op := .build t parts, type := ty, pos := pos, after := after, guard := some gd } (yielded ops a.tmps) = true) (hp : (parts.toList.map fun x => (x.1, a.eval x.2)) = L) (v : Value) (hr : (Instr.build t L.toArray).run P w = .ok v w)
    (h : wpList P ops Q rest (a.put dst v) w) : wpList P ops Q ({ dst := dst, op := .build t parts, type := ty, pos := pos, after := after, guard := some gd } :: rest) a w := by
  refine wpList_step fun K hK => ?_
  rw [if_pos hw]
  unfold Oper.wp execOp
  simp only [Sem.run_bind, parts_list hp, hr, Result.andThen_ok]
  exact hK _ _ h

set_option maxRecDepth 100000 in
theorem all (t : Value) (l : List Rt) (w : World) (h : Tp w t l) : Calls Try.prog 22 #[t] w fun e w' => ∃ v', e = .returned v' ∧ Own 34 20 rl w.heap.size w' v' l ∧ Keep w w' := by
  obtain ⟨v, hv, hc⟩ := rows_of h
  have H := Lib.hid hc
  have HV := Lib.hid hv
  have hf := h.few
  clear h hv hc
  go_enter Try.func22, Try.ntmps22
  go_wp2_with fail
  refine (H.out w (Keep.refl _)).mono ?_
  rintro e w1 ⟨rfl, b1⟩
  go_wp2_with fail
  refine (clone v l w1 (HV.out.cells.keep b1) (by omega)).mono ?_
  rintro e w2 ⟨v', rfl, o2, b2⟩
  have HO : Hid (Own 34 20 rl w.heap.size w2 v' l) := by
    have hs := b1.size
    refine ⟨o2.1, ?_⟩
    rcases o2.2 with h | ⟨g, cap, cur, h1, h2, h3⟩
    · exact .inl h
    · exact .inr ⟨g, cap, cur, h1, Nat.le_trans hs h2, h3⟩
  have HK := Lib.hid (b1.trans b2)
  clear b1 b2 o2
  go_wp2
  go_ret
  exact ⟨v', rfl, HO.out, HK.out⟩

def betS (l : List Rt) (p q : Px) : List Rt := (l.drop (rank l p)).take (rank l q - rank l p)
set_option maxRecDepth 100000 in
theorem between (t : Value) (l : List Rt) (p q : Px) (hp : L16 p) (hq : L16 q) (w : World) (h : Tp w t l) : Calls Try.prog 23 #[t, .agg (pc p), .agg (pc q)] w fun e w' => ∃ v', e = .returned v' ∧ Row rl 34 w' v' (betS l p q) ∧ Keep w w' := by
  obtain ⟨hA, hB, hS⟩ := two_at w p q hp hq
  obtain ⟨n, hn⟩ : ∃ n, n = 18 := ⟨18, rfl⟩
  have hsz : ∀ w, (Go.sizeOf 25).run Try.prog w = .ok n w := fun w => by rw [hn]; exact Try.sizeOf25 w
  have hn0 : ¬ n = 0 := by omega
  have h1 := hA.whole hn
  have HT := Lib.hid (h.keep hS.keep)
  have HP := Lib.hid (place t l p hp _ HT.out)
  have HQ := Lib.hid (fun w h => place t l q hq w h)
  have HB := Lib.hid hB
  have HS := Lib.hid hS.keep
  have HN := Lib.hid hn
  have hr1 := rank_le l p
  have hr2 := rank_le l q
  have hf := h.few
  unfold betS
  clear hA hB hS hn
  generalize rank l p = i at *
  generalize rank l q = j at *
  generalize hasP l p = u1 at *
  generalize hasP l q = u2 at *
  by_cases hij : i ≥ j
  · have hij2 : (i : Int) ≥ (j : Int) := by omega
    rw [show j - i = 0 by omega, List.take_zero]
    go_enter Try.func23, Try.ntmps23
    go_wp2_with fail
    refine HP.out.mono ?_
    rintro e w1 ⟨rfl, b1⟩
    have h2 := (show At w1 (w.heap.size + 1) q from ⟨b1.obj HB.out.block, hq⟩).whole HN.out
    have HT1 := Lib.hid (HT.out.keep b1)
    clear h1
    go_wp2_with fail
    refine (HQ.out w1 HT1.out).mono ?_
    rintro e w2 ⟨rfl, b2⟩
    go_wp2
    go_ret
    exact ⟨_, rfl, Row.nil _ _, HS.out.trans (b1.trans b2)⟩
  · have hij2 : ¬ ((i : Int) ≥ (j : Int)) := by omega
    rcases h with ⟨rfl, rfl⟩ | ⟨b, rfl, hb⟩
    · simp at hr2; omega
    clear hb
    go_enter Try.func23, Try.ntmps23
    go_wp2_with fail
    refine HP.out.mono ?_
    rintro e w1 ⟨rfl, b1⟩
    have h2 := (show At w1 (w.heap.size + 1) q from ⟨b1.obj HB.out.block, hq⟩).whole HN.out
    have HT1 := Lib.hid (HT.out.keep b1)
    clear h1
    go_wp2_with fail
    refine (HQ.out w1 HT1.out).mono ?_
    rintro e w2 ⟨rfl, b2⟩
    rcases (HT1.out.keep b2) with ⟨h0, _⟩ | ⟨b', hbe, ⟨⟨v, hv, hrow⟩, hs, hf2⟩⟩
    · cases h0
    cases hbe
    obtain ⟨v1, s1, r1⟩ := cut_mid hrow i j (by omega) hr2
    have hc : w2.cell? ⟨b, 0, none⟩ = some v := cell_obj hv rfl
    have HK2 := Lib.hid (HS.out.trans (b1.trans b2))
    have HC := Lib.hid (clone v1 _ w2 r1.cells (by rw [List.length_take, List.length_drop]; omega))
    clear h2 b1 b2 hv hrow r1 HT HT1 HP HQ hs
    go_wp2_with fail
    refine HC.out.mono ?_
    rintro e w3 ⟨v', rfl, o3, b3⟩
    have HR := Lib.hid (Own.row elR o3)
    have HK3 := Lib.hid (HK2.out.trans b3)
    clear o3 b3 HC
    go_wp2
    go_ret
    exact ⟨v', rfl, HR.out, HK3.out⟩

set_option maxRecDepth 100000 in
set_option maxHeartbeats 1000000 in
/-- putWhere. -/
theorem putWhere (b : Nat) (l : List Rt) (must : Bool) (r : Rt) (x : Int) (w : World) (h : Tb w b l) :
    Calls Try.prog 40 #[.pointer (some ⟨b, 0, none⟩), .bool must, .agg (rc r), .int .i64 x] w (TbPost b w (if rightR r then (if hasP l r.to = must then putS l r else (l, x)) else (l, 1))) := by
  have hA := RAt.new w r
  have hS : Keep w (w.alloc (.cells (rc r) 34)) := (Keep.refl w).alloc _
  obtain ⟨n, hn⟩ : ∃ n, n = 18 := ⟨18, rfl⟩
  have hsz : ∀ w, (Go.sizeOf 25).run Try.prog w = .ok n w := fun w => by rw [hn]; exact Try.sizeOf25 w
  have hn0 : ¬ n = 0 := by omega
  obtain ⟨n2, hn2⟩ : ∃ n, n = 20 := ⟨20, rfl⟩
  have hsz2 : ∀ w, (Go.sizeOf 34).run Try.prog w = .ok n2 w := fun w => by rw [hn2]; exact Try.sizeOf34 w
  have HR := Lib.hid (rightT r).keep
  have h1 := hA.whole hn2
  have HA := Lib.hid hA
  have HS := Lib.hid hS
  have HT := Lib.hid (h.keep hS)
  have HN := Lib.hid hn
  have HN2 := Lib.hid hn2
  have HPut := Lib.hid (fun w h => put b l r w h)
  have HP := Lib.hid (fun w h => place (.pointer (some ⟨b, 0, none⟩)) l r.to r.ok w h)
  clear hA hS hn hn2 h
  obtain ⟨R, hR⟩ : ∃ R, rc r = R := ⟨_, rfl⟩
  have HRC := Lib.hid hR
  rw [hR] at h1 HR HS HA HT
  simp only [hR] at HPut ⊢
  clear hR
  by_cases hr : rightR r
  · rw [if_pos hr]
    rw [decide_eq_true hr] at HR
    clear hr
    by_cases hh : hasP l r.to = must
    · rw [if_pos hh]
      simp only [hh] at HP
      clear hh
      generalize rank l r.to = k at *
      have hmm : (!(must == must)) = false := by simp
      go_enter Try.func40, Try.ntmps40
      go_wp2_with fail
      refine (HR.out _).mono ?_
      rintro e w1 ⟨rfl, b1⟩
      have h2 := (HA.out.keep b1).to HN.out
      go_wp2_with fail
      refine (HP.out _ (.inr ⟨b, rfl, HT.out.keep b1⟩)).mono ?_
      rintro e w2 ⟨rfl, b2⟩
      have h3 := (HA.out.keep (b1.trans b2)).whole HN2.out
      rw [HRC.out] at h3
      have HT2 := Lib.hid (HT.out.keep (b1.trans b2))
      have HK2 := Lib.hid (HS.out.trans (b1.trans b2))
      clear h1 h2 b1 b2
      go_wp2_with fail
      refine (HPut.out _ HT2.out).mono ?_
      rintro e w3 ⟨rfl, t3, o3⟩
      have HE := Lib.hid (show TbPost b w (putS l r) (.returned (.int .i64 (putS l r).2)) w3 from ⟨rfl, t3, (Only.keep HK2.out).trans o3⟩)
      clear t3 o3 h3
      go_wp2
      go_ret
      exact HE.out
    · rw [if_neg hh]
      have hmm : (!(hasP l r.to == must)) = true := by simpa using hh
      clear hh
      generalize hasP l r.to = u at *
      generalize rank l r.to = k at *
      go_enter Try.func40, Try.ntmps40
      go_wp2_with fail
      refine (HR.out _).mono ?_
      rintro e w1 ⟨rfl, b1⟩
      have h2 := (HA.out.keep b1).to HN.out
      go_wp2_with fail
      refine (HP.out _ (.inr ⟨b, rfl, HT.out.keep b1⟩)).mono ?_
      rintro e w2 ⟨rfl, b2⟩
      have HT2 := Lib.hid (HT.out.keep (b1.trans b2))
      have HK2 := Lib.hid (HS.out.trans (b1.trans b2))
      clear h1 h2 b1 b2
      go_wp2
      go_ret
      exact ⟨rfl, HT2.out, Only.keep HK2.out⟩
  · rw [if_neg hr]
    rw [decide_eq_false hr] at HR
    clear hr
    go_enter Try.func40, Try.ntmps40
    go_wp2_with fail
    refine (HR.out _).mono ?_
    rintro e w1 ⟨rfl, b1⟩
    go_wp2
    go_ret
    exact ⟨rfl, HT.out.keep b1, Only.keep (HS.out.trans b1)⟩

set_option maxRecDepth 100000 in
set_option maxHeartbeats 1000000 in
theorem withdraw (b : Nat) (l : List Rt) (r : Rt) (w : World) (h : Tb w b l) :
    Calls Try.prog 41 #[.pointer (some ⟨b, 0, none⟩), .agg (rc r)] w (TbPost b w (if rightP r.to ∧ r = wd r then dropS l r.to else (l, 1))) := by
  have hA := RAt.new w r
  have hS : Keep w (w.alloc (.cells (rc r) 34)) := (Keep.refl w).alloc _
  obtain ⟨n, hn⟩ : ∃ n, n = 18 := ⟨18, rfl⟩
  have hsz : ∀ w, (Go.sizeOf 25).run Try.prog w = .ok n w := fun w => by rw [hn]; exact Try.sizeOf25 w
  have hn0 : ¬ n = 0 := by omega
  obtain ⟨n2, hn2⟩ : ∃ n, n = 20 := ⟨20, rfl⟩
  have hsz2 : ∀ w, (Go.sizeOf 34).run Try.prog w = .ok n2 w := fun w => by rw [hn2]; exact Try.sizeOf34 w
  have HR := Lib.hid (right r.to r.ok).keep
  have h1 := hA.to hn
  have HA := Lib.hid hA
  have HS := Lib.hid hS
  have HT := Lib.hid (h.keep hS)
  have HN := Lib.hid hn
  have HN2 := Lib.hid hn2
  have HD := Lib.hid (fun w h => drop b l r.to r.ok w h)
  have HBU := Lib.hid (build_to r.to r.ok)
  have heq : ∀ w, (Op.equalIn 10000 34 (.agg (rc r)) (.agg (rc (wd r)))).run Try.prog w = .ok (decide (r = wd r)) w := fun w => eq_rc 9995 r (wd r) w
  rw [show (⟨r.to, 0, 0, r.ok⟩ : Rt) = wd r from rfl] at HBU
  clear hA hS hn hn2 h
  obtain ⟨R, hR⟩ : ∃ R, rc r = R := ⟨_, rfl⟩
  have HRC := Lib.hid hR
  rw [hR] at h1 HS HA HT
  simp only [hR] at heq ⊢
  clear hR
  generalize rc (wd r) = D at *
  by_cases hr : rightP r.to
  · rw [decide_eq_true hr] at HR
    by_cases he : r = wd r
    · rw [if_pos ⟨hr, he⟩]
      simp only [decide_eq_true he] at heq
      clear hr he
      go_enter Try.func41, Try.ntmps41
      go_wp2_with fail
      refine (HR.out _).mono ?_
      rintro e w1 ⟨rfl, b1⟩
      have h2 := (HA.out.keep b1).to HN.out
      have h3 := (HA.out.keep b1).whole HN2.out
      rw [HRC.out] at h3
      have HT1 := Lib.hid (HT.out.keep b1)
      have HK1 := Lib.hid (HS.out.trans b1)
      clear h1 b1
      go_wp2_with (refine at_buildG [(0, .agg (pc r.to))] (by rfl) rfl _ (HBU.out _) ?_)
      refine (HD.out _ HT1.out).mono ?_
      rintro e w3 ⟨rfl, t3, o3⟩
      have HE := Lib.hid (show TbPost b w (dropS l r.to) (.returned (.int .i64 (dropS l r.to).2)) w3 from ⟨rfl, t3, (Only.keep HK1.out).trans o3⟩)
      clear t3 o3 h3 h2
      go_wp2
      go_ret
      exact HE.out
    · rw [if_neg (fun h => he h.2)]
      simp only [decide_eq_false he] at heq
      clear hr he
      go_enter Try.func41, Try.ntmps41
      go_wp2_with fail
      refine (HR.out _).mono ?_
      rintro e w1 ⟨rfl, b1⟩
      have h2 := (HA.out.keep b1).to HN.out
      have h3 := (HA.out.keep b1).whole HN2.out
      rw [HRC.out] at h3
      have HT1 := Lib.hid (HT.out.keep b1)
      have HK1 := Lib.hid (HS.out.trans b1)
      clear h1 b1
      go_wp2_with (refine at_buildG [(0, .agg (pc r.to))] (by rfl) rfl _ (HBU.out _) ?_)
      go_ret
      exact ⟨rfl, HT1.out, Only.keep HK1.out⟩
  · rw [decide_eq_false hr] at HR
    rw [if_neg (fun h => hr h.1)]
    clear hr heq
    go_enter Try.func41, Try.ntmps41
    go_wp2_with fail
    refine (HR.out _).mono ?_
    rintro e w1 ⟨rfl, b1⟩
    go_wp2
    go_ret
    exact ⟨rfl, HT.out.keep b1, Only.keep (HS.out.trans b1)⟩
end Go.Proofs.Ytgocmolebanflaa
