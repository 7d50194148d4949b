/- Proved: what lz's Tokens answers. Condition: the text's length fits. -/
import Derived.Test.YtpimecnpdpcceaaGreatLh
import Derived.Test.YtpimecnpdpcceaaGreatMl
namespace Go.Proofs.YtpimecnpdpcceaaGreat
open Go.RowKit

def ToRel (w : World) (N : Nat) (l0 : List Bool) (lv hv : Value) (wr : World) : Prop :=
  ∃ (has f : Nat) (l : List Bool) (T : List Lz.Tk), hv = .int .i64 has ∧ has ≤ N ∧ T.length ≤ has ∧ N - has ≤ f ∧ Lz.takesF N N 0 l0 [] = Lz.takesF N f has l T ∧ Own 119 3 tl (w.heap.size + 1) wr lv T ∧ Bit.Rd wr w.heap.size l 0 ∧ Keep w wr
def TokPost (w : World) (r : List Lz.Tk × Nat × Int) (e : Ending) (w' : World) : Prop :=
  ∃ v, e = .returned (.tuple #[v, .int .i64 r.2.2]) ∧ Row tl 119 w' v r.1 ∧ Keep w w'
theorem Rd_app {α : Type} {t k : Nat} {enc : α → List Value} {B b : Nat} {l : List Bool} {x : Int} {w w' : World} {v : Value} {m : List α} (h : Bit.Rd w b l x) (ho : Own t k enc B w v m) (hb : b < B) (hg : w.grownBy w' v.ownBlock) : Bit.Rd w' b l x := by
  obtain ⟨s, k, hp, hx⟩ := h
  refine ⟨s, k, ⟨?_, hp.le, hp.len⟩, hx⟩
  rw [hg.block b (Bit.lt_of_block hp.block) fun e => by
    have := (World.ownsRow.lt ho b e.symm).1
    omega]
  exact hp.block

set_option maxRecDepth 100000 in
set_option maxHeartbeats 4000000 in
theorem ztokens (s : List UInt8) (hs : s.length ≤ 1000000000000) (w : World) : Calls Tryz.prog 71 #[.string ⟨s.toArray⟩] w (TokPost w (Lz.tokensF s)) := by
  obtain ⟨R, hR⟩ : ∃ R, R = Lz.tokensF s := ⟨_, rfl⟩
  rw [← hR]
  unfold Lz.tokensF at hR
  have HNew := Lib.hid (Bit.new_at s hs w)
  have HCode := Lib.hid (fun (w' : World) (h : Bit.Rd w' w.heap.size (Bit.ofL s) 0) => Bit.code_at w.heap.size (Bit.ofL s) 0 w' h)
  generalize Bit.codeF (Bit.ofL s) 0 = c at hR HCode
  obtain ⟨N, l0, x⟩ := c
  simp only at hR HCode
  have HR := Lib.hid hR
  clear hR
  obtain ⟨hz, hi⟩ := zero_of_info infoT2
  obtain ⟨n, hn3⟩ : ∃ n, n = 3 := ⟨3, rfl⟩
  have hsz : ∀ w, (Go.sizeOf 119).run Tryz.prog w = .ok n w := fun w => by rw [hn3]; exact Tryz.sizeOf119 w
  have hn0 : ¬ n = 0 := by omega
  have htn : ∀ t : Lz.Tk, (tc t).size = n := fun t => by rw [hn3]; rfl
  have HN := Lib.hid hn3
  clear hn3
  go_enter Tryz.func71, Tryz.ntmps71
  go_wp2_with fail
  refine HNew.out.mono ?_
  rintro e w1 ⟨rfl, r1, b1⟩
  have HK1 := Lib.hid (bk b1)
  have HC1 := Lib.hid (HCode.out w1 r1)
  clear r1 b1 HNew HCode
  go_wp2_with fail
  refine HC1.out.mono ?_
  rintro e w2 ⟨rfl, r2, o2⟩
  have HK2 := Lib.hid (Only.made HK1.out (bo o2) (Nat.le_refl _))
  have HR2 := Lib.hid r2
  have HE := Lib.hid (Bit.err_at w.heap.size l0 x w2 r2)
  clear r2 o2 HC1 HK1
  go_wp2_with fail
  refine HE.out.mono ?_
  rintro e w2 ⟨rfl, rfl⟩
  by_cases hx : x = 0
  · have hxb : (x != 0) = false := by simp [hx]
    have HR3 := Lib.hid (show Bit.Rd w2 w.heap.size l0 0 from by rw [← hx]; exact HR2.out)
    have hR := HR.out
    rw [if_neg (by simp [hx])] at hR
    by_cases hbig : 65536 < N
    · have hbi : (N : Int) > 65536 := by omega
      rw [if_pos hbig] at hR
      have HRE := Lib.hid hR
      clear hR HR
      go_wp2
      go_ret2
      rw [HRE.out]
      exact ⟨_, rfl, Row.nil _ _, HK2.out⟩
    · have hbi : ¬ (N : Int) > 65536 := by omega
      rw [if_neg hbig] at hR
      have HRE := Lib.hid hR
      clear hR HR HR2 HE
      go_wp2
      go_loopw [6, 7] (fun lv hv wr => ToRel w N l0 lv hv wr) (fun _ hv _ => N - (intOf hv).toNat)
      case atStart => exact ⟨0, N, l0, [], rfl, Nat.zero_le _, Nat.zero_le _, Nat.sub_le _ _, rfl, Own.nil _ _, HR3.out, HK2.out⟩
      case round =>
        obtain ⟨has, f, l, T, rfl, hhas, hfew, hf, heq, hown, hrd, hw⟩ := hrel
        have HEQ := Lib.hid heq
        have HO := Lib.hid hown
        have HRD := Lib.hid hrd
        have HK := Lib.hid hw
        clear heq hown hrd hw
        by_cases hlt : has < N
        · have hlti : (has : Int) < N := by omega
          have HTk := Lib.hid (ztake w.heap.size has N l wr HRD.out (by omega) (by omega))
          obtain ⟨f', rfl⟩ : ∃ f', f = f' + 1 := ⟨f - 1, by omega⟩
          have hst := HEQ.out
          rw [Lz.takesF_step hlt] at hst
          have HRoom := Lib.hid (fun (h : (Lz.takeF has N l).2.2 = 0) => Lz.okT_room (Lz.take_okT (l := l) (l1 := (Lz.takeF has N l).2.1) hlt (by rw [← h])))
          generalize Lz.takeF has N l = r at hst HTk HRoom
          obtain ⟨t, l1, x1⟩ := r
          simp only at hst HRoom
          have HST := Lib.hid hst
          rw [show ((N - has : Nat) : Int) = (N : Int) - has by omega] at HTk
          clear hst HEQ
          go_wp2_with fail
          refine HTk.out.mono ?_
          rintro e w3 ⟨rfl, r3, o3⟩
          simp only at r3 ⊢
          have HO3 := Lib.hid (HO.out.only o3 (by omega))
          have HK3 := Lib.hid (Only.made HK.out o3 (Nat.le_refl _))
          have HR3' := Lib.hid r3
          have HA := Lib.hid (TAt.new w3 zeroT)
          have HP := Lib.hid (HA.out.put t)
          have hst := HA.out.store t
          have hld := HP.out.whole HN.out
          have d2 := HP.out.c2
          have HKA := Lib.hid (((Keep.refl w3).alloc (.cells (tc zeroT) 119)).setRow w3.heap.size (tc t) (Nat.le_refl _))
          have HTS := Lib.hid (slice_tok t)
          have HTR := Lib.hid (fun w => Row.tok w t)
          clear r3 o3 HA HTk
          by_cases hx1 : x1 = 0
          · have hx1b : (x1 != 0) = false := by simp [hx1]
            have hroom := HRoom.out hx1
            have hsize : ∀ w ts ty, (Builtin.max_ ts ty #[.int .i64 (t.len : Nat), .int .i64 1]).run Tryz.prog w = .ok (.int .i64 (Lz.sizeT t : Nat)) w := fun w ts ty => by
              rw [run_max_int2, show (if (1 : Int) > (t.len : Nat) then (1 : Int) else (t.len : Nat)) = (Lz.sizeT t : Nat) by unfold Lz.sizeT; split <;> omega]
            have hpos := Lz.sizeT_pos t
            have HST2 := Lib.hid (show Lz.takesF N N 0 l0 [] = Lz.takesF N f' (has + Lz.sizeT t) l1 (T ++ [t]) from by rw [HST.out, if_neg (by simp [hx1])])
            generalize Lz.sizeT t = S at *
            go_wp2_with (first | (refine at_slice [(0, .agg (tc t))] rfl _ (HTS.out _) ?_) | (at_builtin; refine wp_app elT rfl _ _ rfl (w.heap.size + 1) _ _ T [t] rfl rfl ((HO3.out.keep HKA.out).keep ((Keep.refl _).alloc _)) (HTR.out _).cells ?q1 ?q2 ?q3 ?_))
            case q1 => simp; omega
            case q2 => simp; omega
            case q3 => have := (HK3.out.trans HKA.out).size; simp at this ⊢; omega
            intro v9 w9 k1 k2
            have HK9 := Lib.hid (((HO3.out.keep HKA.out).keep ((Keep.refl _).alloc _)).grown ((HK3.out.trans HKA.out).alloc _) (by omega) k2)
            have HR9 := Lib.hid (Rd_app (((HR3'.out hx1).same (kb HKA.out)).same (kb ((Keep.refl _).alloc _))) ((HO3.out.keep HKA.out).keep ((Keep.refl _).alloc _)) (by omega) k2)
            have e2 := ((HP.out.keep ((Keep.refl _).alloc _)).app HO3.out (Nat.le_refl _) k2).c2
            have HO9 := Lib.hid k1
            clear k1 k2 hst hld d2
            go_wp2
            go_roundw
            case rel => exact ⟨has + S, f', l1, T ++ [t], by go_num, by omega, by simp; omega, by omega, HST2.out, HO9.out, HR9.out, HK9.out⟩
            case measure => simp [intOf]; omega
          · have hx1b : (x1 != 0) = true := by simpa using hx1
            have HRX := Lib.hid (show R = ([], 0, x1) from by rw [HRE.out, HST.out, if_pos hx1]; simp only; rw [if_pos hx1])
            go_wp2
            go_ret2
            rw [HRX.out]
            exact ⟨_, rfl, Row.nil _ _, HK3.out.trans HKA.out⟩
        · have hlti : ¬ (has : Int) < N := by omega
          have hE := HRE.out
          rw [HEQ.out, Lz.takesF_end N f l T has (by omega)] at hE
          simp only [ne_eq, not_true, if_false] at hE
          have HE2 := Lib.hid hE
          have HD := Lib.hid (Bit.done_at w.heap.size l 0 wr HRD.out)
          clear hE HEQ
          generalize Bit.doneF l 0 = y at *
          go_wp2_with fail
          refine HD.out.mono ?_
          rintro e w3 ⟨rfl, b3⟩
          have HK3 := Lib.hid (HK.out.trans (bk b3))
          have HRow := Lib.hid ((HO.out.keep (bk b3)).row elT)
          clear b3
          by_cases hy : y = 0
          · have hyb : (y != 0) = false := by simp [hy]
            have HRX := Lib.hid (show R = (T, N, 0) from by rw [HE2.out, if_neg (by simp [hy])])
            go_wp2
            go_ret2
            rw [HRX.out]
            exact ⟨_, rfl, HRow.out, HK3.out⟩
          · have hyb : (y != 0) = true := by simpa using hy
            have HRX := Lib.hid (show R = ([], 0, y) from by rw [HE2.out, if_pos hy])
            go_wp2
            go_ret2
            rw [HRX.out]
            exact ⟨_, rfl, Row.nil _ _, HK3.out⟩
  · have hxb : (x != 0) = true := by simpa using hx
    have HRX := Lib.hid (show R = ([], 0, x) from by rw [HR.out, if_pos hx])
    go_wp2_with fail
    refine HE.out.mono ?_
    rintro e w2 ⟨rfl, rfl⟩
    go_wp2
    go_ret2
    rw [HRX.out]
    exact ⟨_, rfl, Row.nil _ _, HK2.out⟩
end Go.Proofs.YtpimecnpdpcceaaGreat
