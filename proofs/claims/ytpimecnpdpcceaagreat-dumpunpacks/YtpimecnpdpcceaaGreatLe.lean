/- Proved: what lz's split answers: tokens that say the text, none of which takes more than nine bits a byte. Condition: the text has at most 65536 bytes. -/
import Derived.Test.YtpimecnpdpcceaaGreatMz1
import Derived.WalkMore
namespace Go.Proofs.YtpimecnpdpcceaaGreat
open Go.RowKit

theorem infoT2 : (Tryz.prog.info? 119).map (fun i => (i.zero, i.size)) = some (some (.agg (tc zeroT)), 3) := by kernel_rfl
theorem tc_one (t : Lz.Tk) : ∀ v ∈ (tc t).toList, v.oneCell' = true := tl_one t
theorem TAt.store {w : World} {b : Nat} {z : Lz.Tk} (h : TAt w b z) (t : Lz.Tk) : (storeCells ⟨b, 0, none⟩ (tc t).toList).run Tryz.prog w = .ok () (w.setRow b (tc t)) := by
  have hsc := run_storeCells_from (P := Tryz.prog) b 119 (tc t).toList 0 (tc z) w h (by show 0 + 3 = 3; rfl) (tc_one t)
  rw [List.take_zero, List.nil_append, Array.toArray_toList] at hsc
  exact hsc
theorem TAt.put {w : World} {b : Nat} {z : Lz.Tk} (h : TAt w b z) (t : Lz.Tk) : TAt (w.setRow b (tc t)) b t := block_row h _

def spP (s : List UInt8) (k : Nat) (q : List UInt8) (v : Nat) : Prop := v < k ∧ v + 3 ≤ s.length ∧ q = (s.drop v).take 3
def SpRel (w : World) (s : List UInt8) (lv ev iv : Value) (wr : World) : Prop :=
  ∃ (k e : Nat) (T : List Lz.Tk), iv = .int .i64 k ∧ ev = .int .i64 e ∧ k ≤ s.length ∧ e ≤ s.length ∧ SpT s (max k e) T ∧ Own 119 3 tl (w.heap.size + 1) wr lv T ∧ MapZ wr w.heap.size (spP s k) ∧ Keep w wr
theorem MapZ.app {α : Type} {t k : Nat} {enc : α → List Value} {B b : Nat} {Pr : List UInt8 → Nat → Prop} {w w' : World} {v : Value} {l : List α} (h : MapZ w b Pr) (ho : Own t k enc B w v l) (hb : b < B) (hg : w.grownBy w' v.ownBlock) : MapZ w' b Pr :=
  h.grown (hg.block b h.lt fun e => by
    have := (World.ownsRow.lt ho b e.symm).1
    omega)
theorem TAt.app {α : Type} {t k : Nat} {enc : α → List Value} {B g : Nat} {x : Lz.Tk} {w0 w w' : World} {v : Value} {l : List α} (h : TAt w g x) (ho : Own t k enc B w0 v l) (hb : w0.heap.size ≤ g) (hg : w.grownBy w' v.ownBlock) : TAt w' g x := by
  have := hg.block g (block_lt h) fun e => by
    have := (World.ownsRow.lt ho g e.symm).2
    omega
  unfold TAt
  rw [this]
  exact h
def SplitPost (w : World) (s : List UInt8) (e : Ending) (w' : World) : Prop :=
  ∃ (v : Value) (T : List Lz.Tk), e = .returned v ∧ Row tl 119 w' v T ∧ SpT s s.length T ∧ Keep w w'

set_option maxRecDepth 100000 in
set_option maxHeartbeats 1000000 in
theorem zsplit (s : List UInt8) (hs : s.length ≤ 65536) (w : World) : Calls Tryz.prog 41 #[.string ⟨s.toArray⟩] w (SplitPost w s) := by
  have hlen : (⟨s.toArray⟩ : ByteArray).size = s.length := by simp [ByteArray.size]
  have hmm := @run_makeMap Tryz.prog
  have HI := Lib.hid (fun (i : Nat) (hi : i < s.length) (w : World) => Bit.index_at s i hi w)
  obtain ⟨hz, hi⟩ := zero_of_info infoT2
  obtain ⟨n, hn3⟩ : ∃ n, n = 3 := ⟨3, rfl⟩
  have hsz : ∀ w, (Go.sizeOf 119).run Tryz.prog w = .ok n w := fun w => by rw [hn3]; exact Tryz.sizeOf119 w
  have hn0 : ¬ n = 0 := by omega
  have htn : ∀ t : Lz.Tk, (tc t).size = n := fun t => by rw [hn3]; rfl
  have HN := Lib.hid hn3
  have HS0 := Lib.hid hs
  clear hn3
  go_enter Tryz.func41, Tryz.ntmps41
  go_wp2; go_step3; go_wp2; go_step3; go_wp2
  go_loopw [3, 5, 13] (fun lv ev iv wr => SpRel w s lv ev iv wr) (fun _ _ iv _ => s.length - (intOf iv).toNat)
  case atStart => exact ⟨0, 0, [], rfl, rfl, by omega, by omega, SpT.nil s, Own.nil _ _, MapZ.made _ _, (Keep.refl _).alloc _⟩
  case round =>
    obtain ⟨k, e, T, rfl, rfl, hk, he, hT, hown, hm, hw⟩ := hrel
    have HT := Lib.hid hT
    have HO := Lib.hid hown
    have HM := Lib.hid hm
    have HK := Lib.hid hw
    clear hT hown hm hw
    by_cases h1 : k < s.length
    · have h1i : (k : Int) < s.length := by omega
      go_wp2_with fail
      refine (znote w.heap.size s k (spP s k) wr HM.out (by omega) (by omega)).mono ?_
      rintro e' w1 ⟨z, ok, rfl, m1, o1, hok⟩
      have HM1 := Lib.hid (m1.mono (Qr := spP s (k + 1)) fun q v hv => by
        rcases hv with ⟨a1, a2, a3⟩ | ⟨a1, a2, a3⟩
        · exact ⟨by omega, a2, a3⟩
        · subst a2; exact ⟨by omega, a3, a1⟩)
      have HO1 := Lib.hid (HO.out.only o1 (by omega))
      have HK1 := Lib.hid (Only.made HK.out o1 (Nat.le_refl _))
      have HOK := Lib.hid hok
      clear m1 o1 hok HM HO HK
      by_cases hke : k < e
      · have hkei : (k : Int) < e := by omega
        go_wp2
        go_roundw
        case rel => exact ⟨k + 1, e, T, by go_num, rfl, by omega, he, by rw [show max (k + 1) e = max k e by omega]; exact HT.out, HO1.out, HM1.out, HK1.out⟩
        case measure => simp [intOf]; omega
      · have hkei : ¬ (k : Int) < e := by omega
        have HT' := Lib.hid (show SpT s k T from by have := HT.out; rwa [show max k e = k by omega] at this)
        have i1 := HI.out k h1
        have HBy := Lib.hid (HT'.out.byte h1)
        have hfew := HT'.out.few
        generalize (s[k]'h1) = c at *
        have HBB := Lib.hid (build_byte c)
        have HBS := Lib.hid (slice_tok ⟨c, 0, 0⟩)
        have HBR := Lib.hid (fun w => Row.tok w ⟨c, 0, 0⟩)
        cases ok
        · go_wp2_with (first | (refine at_build [(0, .int .u8 (c.toNat : Nat))] rfl _ (HBB.out _) ?_) | (refine at_slice [(0, .agg (tc ⟨c, 0, 0⟩))] rfl _ (HBS.out _) ?_) | (at_builtin; refine wp_app elT rfl _ _ rfl (w.heap.size + 1) _ _ T [⟨c, 0, 0⟩] rfl rfl (HO1.out.keep ((Keep.refl _).alloc _)) (HBR.out _).cells ?q1 ?q2 ?q3 ?_))
          case q1 => simp; omega
          case q2 => simp; omega
          case q3 => have := HK1.out.size; simp; omega
          intro v9 w9 k1 k2
          have HK9 := Lib.hid ((HO1.out.keep ((Keep.refl _).alloc _)).grown (HK1.out.alloc _) (by omega) k2)
          have HM9 := Lib.hid ((HM1.out.keep ((Keep.refl _).alloc _)).app (HO1.out.keep ((Keep.refl _).alloc _)) (by omega) k2)
          have HO9 := Lib.hid k1
          clear k1 k2
          go_wp2
          go_roundw
          case rel => exact ⟨k + 1, e, T ++ [⟨c, 0, 0⟩], by go_num, rfl, by omega, he, by rw [show max (k + 1) e = k + 1 by omega]; exact HBy.out, HO9.out, HM9.out, HK9.out⟩
          case measure => simp [intOf]; omega
        · obtain ⟨h3, hzk, hz3, heq⟩ := HOK.out rfl
          obtain ⟨hl3, hle⟩ := copy_long h3 hzk heq
          have HSame := Lib.hid (zsame s z k hzk (by omega) (by omega))
          have HCp := Lib.hid (fun hp => HT'.out.copy h3 hzk heq hp)
          obtain ⟨t, ht⟩ : ∃ t, t = copyT s z k := ⟨_, rfl⟩
          have hbk : t.back = k - z := by rw [ht]; rfl
          have hln : Dm.com (s.drop z) (s.drop k) = t.len := by rw [ht]; rfl
          have htz : (⟨0, t.back, t.len⟩ : Lz.Tk) = t := by rw [ht]; rfl
          rw [hln] at HSame
          rw [← ht] at hl3 hle HCp
          have HBC := Lib.hid (fun w => build_copy t.back t.len w)
          rw [htz, show ((t.back : Nat) : Int) = (k : Int) - z by omega] at HBC
          have hlt : t.len < 2 ^ 40 := by omega
          have hbt : t.back < 2 ^ 40 := by omega
          have HPay := Lib.hid (zpays t hbt hlt)
          have HTS := Lib.hid (slice_tok t)
          have HTR := Lib.hid (fun w => Row.tok w t)
          clear ht hbk hln htz heq
          go_wp2_with fail
          refine (HSame.out _).mono ?_
          rintro e2 w2 ⟨rfl, b2⟩
          have HA := Lib.hid (TAt.new w2 zeroT)
          have HP := Lib.hid (HA.out.put t)
          have hst := HA.out.store t
          have hld := HP.out.whole HN.out
          have HK3 := Lib.hid ((b2.alloc (.cells (tc zeroT) 119)).setRow w2.heap.size (tc t) b2.size)
          have hs12 := b2.size
          clear b2
          go_wp2_with (first | (refine at_build [(1, .int .i64 ((k : Int) - z)), (2, .int .i64 (t.len : Nat))] rfl _ (HBC.out _) ?_) | fail)
          refine (HPay.out _).mono ?_
          rintro e3 w3 ⟨rfl, b3⟩
          have HT3 := Lib.hid (HP.out.keep b3)
          have hld3 := HT3.out.whole HN.out
          have HK13 := Lib.hid (HK3.out.trans b3)
          have HKW3 := Lib.hid (HK1.out.trans HK13.out)
          have HO3 := Lib.hid (HO1.out.keep HK13.out)
          have HM3 := Lib.hid (HM1.out.keep HK13.out)
          clear b3 hst hld HA HP
          by_cases hp : (Lz.bitsT t).length < 9 * t.len
          · rw [decide_eq_true hp]
            have HSp := Lib.hid (HCp.out hp)
            go_wp2_with (first | (refine at_slice [(0, .agg (tc t))] rfl _ (HTS.out _) ?_) | (at_builtin; refine wp_app elT rfl _ _ rfl (w.heap.size + 1) _ _ T [t] rfl rfl (HO3.out.keep ((Keep.refl _).alloc _)) (HTR.out _).cells ?r1 ?r2 ?r3 ?_))
            case r1 => simp; omega
            case r2 => simp; omega
            case r3 => have := HKW3.out.size; simp; omega
            intro v9 w9 k1 k2
            have HK9 := Lib.hid ((HO3.out.keep ((Keep.refl _).alloc _)).grown (HKW3.out.alloc _) (by omega) k2)
            have HM9 := Lib.hid ((HM3.out.keep ((Keep.refl _).alloc _)).app (HO3.out.keep ((Keep.refl _).alloc _)) (by omega) k2)
            have d2 := ((HT3.out.keep ((Keep.refl _).alloc _)).app HO1.out (by omega) k2).c2
            have HO9 := Lib.hid k1
            clear k1 k2 hld3
            go_wp2
            go_roundw
            case rel => exact ⟨k + 1, k + t.len, T ++ [t], by go_num, by go_num, by omega, hle, by rw [show max (k + 1) (k + t.len) = k + t.len by omega]; exact HSp.out, HO9.out, HM9.out, HK9.out⟩
            case measure => simp [intOf]; omega
          · rw [decide_eq_false hp]
            go_wp2_with (first | (refine at_build [(0, .int .u8 (c.toNat : Nat))] rfl _ (HBB.out _) ?_) | (refine at_slice [(0, .agg (tc ⟨c, 0, 0⟩))] rfl _ (HBS.out _) ?_) | (at_builtin; refine wp_app elT rfl _ _ rfl (w.heap.size + 1) _ _ T [⟨c, 0, 0⟩] rfl rfl (HO3.out.keep ((Keep.refl _).alloc _)) (HBR.out _).cells ?t1 ?t2 ?t3 ?_))
            case t1 => simp; omega
            case t2 => simp; omega
            case t3 => have := HKW3.out.size; simp; omega
            intro v9 w9 k1 k2
            have HK9 := Lib.hid ((HO3.out.keep ((Keep.refl _).alloc _)).grown (HKW3.out.alloc _) (by omega) k2)
            have HM9 := Lib.hid ((HM3.out.keep ((Keep.refl _).alloc _)).app (HO3.out.keep ((Keep.refl _).alloc _)) (by omega) k2)
            have HO9 := Lib.hid k1
            clear k1 k2
            go_wp2
            go_roundw
            case rel => exact ⟨k + 1, e, T ++ [⟨c, 0, 0⟩], by go_num, rfl, by omega, he, by rw [show max (k + 1) e = k + 1 by omega]; exact HBy.out, HO9.out, HM9.out, HK9.out⟩
            case measure => simp [intOf]; omega
    · have h1i : ¬ (k : Int) < s.length := by omega
      have hks : max k e = s.length := by omega
      have HR := Lib.hid (HO.out.row elT)
      go_wp2
      go_ret
      exact ⟨_, T, rfl, HR.out, by rw [← hks]; exact HT.out, HK.out⟩
end Go.Proofs.YtpimecnpdpcceaaGreat
