/- Proved: what lz's join and Unpack answer. Condition: tokens are known, each copy has where to take from; the text's length fits. -/
import Derived.Test.YtpimecnpdpcceaaGreatLj
import Derived.Test.YtpimecnpdpcceaaGreatMx
namespace Go.Proofs.YtpimecnpdpcceaaGreat
open Go.RowKit

def bl (c : UInt8) : List Value := [bv c]
theorem flat_bl (l : List UInt8) : flat bl l = l.map bv := by
  unfold flat bl
  induction l with
  | nil => rfl
  | cons c l ih => simp [ih]
theorem elB : El 96 5 1 1 bl := ⟨by kernel_rfl, by
  obtain ⟨it, h1, h2, h3, h4⟩ := info_all 5 _ _ _ info5b
  exact ⟨it, _, h1, h2, h3, h4, rfl⟩, fun _ => rfl, fun c v hv => by simp [bl, bv] at hv; subst hv; rfl, by omega⟩
theorem slice_byte (c : UInt8) (w : World) : (Instr.buildSlice 96 1 #[(0, .int .u8 (c.toNat : Nat))]).run Tryz.prog w = .ok (.slice (some ⟨w.heap.size, 0, none⟩) 1 1) (w.alloc (.cells #[.int .u8 (c.toNat : Nat)] 5)) := by kernel_rfl
theorem Row.byte (w : World) (c : UInt8) : Row bl 5 (w.alloc (.cells #[.int .u8 (c.toNat : Nat)] 5)) (.slice (some ⟨w.heap.size, 0, none⟩) 1 1) [c] := by
  have hb : (w.alloc (.cells #[.int .u8 (c.toNat : Nat)] 5)).heap[w.heap.size]? = some (.cells #[.int .u8 (c.toNat : Nat)] 5 (0, 0)) := heap_alloc_last w _
  refine ⟨.inr ⟨w.heap.size, 0, 1, rfl, by simp, by unfold maxLen; omega, by simp, fun j u hj => ?_⟩, fun g hg => ?_⟩
  · refine cell_obj hb ?_
    rw [flat_one] at hj
    simpa [bl, bv] using hj
  · simp [Value.ownBlock] at hg
    subst hg
    exact ⟨_, _, hb⟩
theorem Cells.byte {w : World} {g o cap : Nat} {l : List UInt8} (h : Cells bl w (.slice (some ⟨g, o, none⟩) l.length cap) l) (j : Nat) (c : UInt8) (hj : l[j]? = some c) : w.cell? ⟨g, o + j, none⟩ = some (.int .u8 (c.toNat : Nat)) := by
  have := h.cell (k := 1) (fun _ => rfl) j c hj 0 (by omega) (bv c) rfl
  simpa [bv] using this
theorem TAt.app2 {α : Type} {t k : Nat} {enc : α → List Value} {B g : Nat} {x : Lz.Tk} {w w' : World} {v : Value} {l : List α} (h : TAt w g x) (ho : Own t k enc B w v l) (ht : t ≠ 119) (hg : w.grownBy w' v.ownBlock) : TAt w' g x := by
  have := hg.block g (block_lt h) fun e => by
    rcases ho.2 with ⟨rfl, _⟩ | ⟨g', cap, cur, rfl, _, hb, _⟩
    · simp [Value.ownBlock] at e
    · simp [Value.ownBlock] at e
      subst e
      unfold TAt at h
      rw [h] at hb
      simp at hb
      exact ht hb.2.symm
  unfold TAt
  rw [this]
  exact h
def JoRel (w : World) (T : List Lz.Tk) (tv iv : Value) (wr : World) : Prop :=
  ∃ k : Nat, iv = .int .i64 k ∧ k ≤ T.length ∧ Own 5 1 bl w.heap.size wr tv (Lz.textT (T.take k)) ∧ Keep w wr
def CoRel (w W : World) (g : Nat) (t : Lz.Tk) (out : List UInt8) (tv iv : Value) (wr : World) : Prop :=
  ∃ j : Nat, iv = .int .i64 j ∧ j ≤ t.len ∧ Own 5 1 bl w.heap.size wr tv (Lz.copyN t.back j out) ∧ TAt wr g t ∧ Keep w wr ∧ W.heap.size ≤ wr.heap.size

set_option maxRecDepth 100000 in
set_option maxHeartbeats 4000000 in
theorem zjoin (N : Nat) (hN : N ≤ 65536) (v : Value) (T : List Lz.Tk) (w : World) (h : Cells tl w v T) (hT : T.length ≤ 65536) (hok : Lz.okL N 0 T) : Calls Tryz.prog 72 #[v] w fun e w' => ∃ u, e = .returned u ∧ Own 5 1 bl w.heap.size w' u (Lz.textT T) ∧ Keep w w' := by
  obtain ⟨a, cap, rfl, _, _⟩ := h.form
  obtain ⟨hz, hi⟩ := zero_of_info infoT2
  obtain ⟨n, hn3⟩ : ∃ n, n = 3 := ⟨3, rfl⟩
  have hsz : ∀ w, (Go.sizeOf 119).run Tryz.prog w = .ok n w := fun w => by rw [hn3]; exact Tryz.sizeOf119 w
  have hn0 : ¬ n = 0 := by omega
  have htn : ∀ t : Lz.Tk, (tc t).size = n := fun t => by rw [hn3]; rfl
  have HN := Lib.hid hn3
  have HC := Lib.hid h
  have HOK := Lib.hid hok
  obtain ⟨L, hL⟩ : ∃ n, T.length = n := ⟨_, rfl⟩
  have HL := Lib.hid hL
  rw [hL] at hT ⊢
  clear hn3 h hL hok
  go_enter Tryz.func72, Tryz.ntmps72
  go_wp2
  go_loopw [3, 8] (fun tv iv wr => JoRel w T tv iv wr) (fun _ iv _ => L - (intOf iv).toNat)
  case atStart => exact ⟨0, rfl, Nat.zero_le _, Own.nil _ _, Keep.refl _⟩
  case round =>
    obtain ⟨k, rfl, hk, hown, hw⟩ := hrel
    rw [HL.out] at hk
    by_cases hlt : k < L
    · have hcl : Cells tl w (.slice a T.length cap) T := HC.out
      obtain ⟨g, o, cap', e, _, _, _⟩ := hcl.ptr k (by rw [HL.out]; exact hlt)
      simp at e
      obtain ⟨rfl, rfl⟩ := e
      obtain ⟨x, hx⟩ : ∃ x, T[k]? = some x := ⟨_, List.getElem?_eq_getElem (by rw [HL.out]; exact hlt)⟩
      have dx := (hcl.keep hw).tk HN.out k x hx
      have HX := Lib.hid hx
      have hokx := Lz.okL_at HOK.out hx
      have HTX := Lib.hid (show Lz.textT (T.take (k + 1)) = Lz.stepT (Lz.textT (T.take k)) x from by rw [take_snoc hx, Lz.textT_snoc])
      generalize Lz.textT (T.take k) = out at *
      have HA := Lib.hid (TAt.new wr zeroT)
      have HP := Lib.hid (HA.out.put x)
      have hst := HA.out.store x
      have d0 := HP.out.c0
      have d2 := HP.out.c2
      have HKA := Lib.hid (((Keep.refl wr).alloc (.cells (tc zeroT) 119)).setRow wr.heap.size (tc x) (Nat.le_refl _))
      have HKW := Lib.hid (hw.trans HKA.out)
      have HOW := Lib.hid (hown.keep HKA.out)
      have HOW0 := Lib.hid hown
      have HOKX := Lib.hid hokx
      have hroom := Lz.okT_room hokx
      clear hcl hx hw hown HA hokx
      by_cases hx0 : x.len = 0
      · rw [hx0] at d2
        have HBS := Lib.hid (slice_byte x.b)
        have HBR := Lib.hid (fun w => Row.byte w x.b)
        have HSt := Lib.hid (show Lz.stepT out x = out ++ [x.b] from by unfold Lz.stepT; rw [if_pos hx0])
        have hsT : out.length + 1 ≤ N := by have := Lz.sizeT_pos x; omega
        generalize x.b = c at *
        go_wp2_with (first | (refine at_slice [(0, .int .u8 (c.toNat : Nat))] rfl _ (HBS.out _) ?_) | (at_builtin; refine wp_app elB rfl _ _ rfl w.heap.size _ _ out [c] rfl rfl (HOW.out.keep ((Keep.refl _).alloc _)) (HBR.out _).cells ?q1 ?q2 ?q3 ?_))
        case q1 => simp; omega
        case q2 => simp; omega
        case q3 => have := HKW.out.size; simp at this ⊢; omega
        intro v9 w9 k1 k2
        have HK9 := Lib.hid ((HOW.out.keep ((Keep.refl _).alloc _)).grown (HKW.out.alloc _) (Nat.le_refl _) k2)
        have HO9 := Lib.hid k1
        clear k1 k2 hst d0 d2
        go_wp2
        go_roundw
        case rel => exact ⟨k + 1, by go_num, by rw [HL.out]; omega, by rw [HTX.out, HSt.out]; exact HO9.out, HK9.out⟩
        case measure => simp [intOf]; omega
      · have hx0i : ¬ ((x.len : Nat) : Int) = 0 := by omega
        have hx0b : (((x.len : Nat) : Int) == 0) = false := by simpa using hx0
        have HSt := Lib.hid (show Lz.stepT out x = Lz.copyN x.back x.len out from by unfold Lz.stepT; rw [if_neg hx0])
        have hxl : x.len ≤ N := by have : x.len ≤ Lz.sizeT x := by unfold Lz.sizeT; omega
                                   omega
        have hback : 1 ≤ x.back ∧ x.back ≤ out.length := by
          obtain ⟨_, ⟨h1, _⟩ | ⟨_, h2, h3, _, _⟩⟩ := HOKX.out
          · exact absurd h1 hx0
          · exact ⟨h2, h3⟩
        have hxs : out.length + x.len ≤ N := by have : x.len ≤ Lz.sizeT x := by unfold Lz.sizeT; omega
                                                omega
        have Hst := Lib.hid (show CoRel w wr wr.heap.size x out u3 (.int .i64 0) ((wr.alloc (.cells (tc zeroT) 119)).setRow wr.heap.size (tc x)) from ⟨0, rfl, Nat.zero_le _, HOW.out, HP.out, HKW.out, HKA.out.size⟩)
        clear HOW HOW0 HKW HKA HP
        go_wp2
        go_loopw [3, 22] (fun tv iv wr' => CoRel w wr wr.heap.size x out tv iv wr') (fun _ iv _ => x.len - (intOf iv).toNat)
        case atStart => exact Hst.out
        case round =>
          obtain ⟨j, rfl, hj, hown, hta, hw, hws⟩ := hrel
          have e1 := hta.c1
          have HTA := Lib.hid hta
          have HK := Lib.hid hw
          have HWS := Lib.hid hws
          by_cases hjl : j < x.len
          · have hlen := Lz.copyN_len x.back j out
            have HSn := Lib.hid (Lz.copyN_snoc x.back j out)
            have hrow := (hown.row elB).cells
            obtain ⟨g2, o2, cap2, hv, _, _, _⟩ := hrow.ptr 0 (by omega)
            subst hv
            obtain ⟨D, hD⟩ : ∃ D, D = (Lz.copyN x.back j out).length - x.back := ⟨_, rfl⟩
            have hDl : D < (Lz.copyN x.back j out).length := by omega
            obtain ⟨c, hc⟩ : ∃ c, (Lz.copyN x.back j out)[D]? = some c := ⟨_, List.getElem?_eq_getElem hDl⟩
            have dc := hrow.byte D c hc
            have HSc := Lib.hid (show Lz.copyN x.back (j + 1) out = Lz.copyN x.back j out ++ [c] from by rw [HSn.out, ← hD, List.getD_eq_getElem?_getD, hc]; rfl)
            have hDi : ((Lz.copyN x.back j out).length : Int) - (x.back : Nat) = (D : Nat) := by omega
            have HO := Lib.hid hown
            have HBS := Lib.hid (slice_byte c)
            have HBR := Lib.hid (fun w => Row.byte w c)
            have hDN : (Lz.copyN x.back j out).length < N := by omega
            generalize Lz.copyN x.back j out = oj at *
            have hjli : (j : Int) < (x.len : Nat) := by omega
            have hbl : x.back ≤ oj.length := by omega
            clear hlen hD hc hrow hown hta hw hws HSn
            go_wp2_with (first | (refine at_slice [(0, .int .u8 (c.toNat : Nat))] rfl _ (HBS.out _) ?_) | (at_builtin; refine wp_app elB rfl _ _ rfl w.heap.size _ _ oj [c] rfl rfl (HO.out.keep ((Keep.refl _).alloc _)) (HBR.out _).cells ?r1 ?r2 ?r3 ?_))
            case r1 => simp; omega
            case r2 => simp; omega
            case r3 => have := HK.out.size; simp; omega
            intro v9 w9 k1 k2
            have HK9 := Lib.hid ((HO.out.keep ((Keep.refl _).alloc _)).grown (HK.out.alloc _) (Nat.le_refl _) k2)
            have HT9 := Lib.hid ((HTA.out.keep ((Keep.refl _).alloc _)).app2 (HO.out.keep ((Keep.refl _).alloc _)) (by decide) k2)
            have HS9 := Lib.hid (Nat.le_trans HWS.out (Nat.le_trans (Nat.le_of_lt (by simp)) k2.size))
            have HO9 := Lib.hid k1
            clear k1 k2 dc e1
            go_wp2
            go_roundw
            case rel => exact ⟨j + 1, by go_num, by omega, by rw [HSc.out]; exact HO9.out, HT9.out, HK9.out, HS9.out⟩
            case measure => simp [intOf]; omega
          · have hje : j = x.len := by omega
            have hjli : ¬ (j : Int) < (x.len : Nat) := by omega
            have HO := Lib.hid (show Own 5 1 bl w.heap.size wr u3 (Lz.textT (T.take (k + 1))) from by rw [HTX.out, HSt.out, ← hje]; exact hown)
            clear hown hta hw hws e1
            go_wp2
            go_roundw
            case rel => exact ⟨k + 1, by go_num, by rw [HL.out]; omega, HO.out, HK.out⟩
            case measure => simp [intOf]; omega
    · have HRow := Lib.hid (show Own 5 1 bl w.heap.size wr u3 (Lz.textT T) from by rwa [List.take_of_length_le (by rw [HL.out]; omega)] at hown)
      have HKE := Lib.hid hw
      clear hown hw
      go_wp2
      go_ret
      exact ⟨_, rfl, HRow.out, HKE.out⟩
end Go.Proofs.YtpimecnpdpcceaaGreat
