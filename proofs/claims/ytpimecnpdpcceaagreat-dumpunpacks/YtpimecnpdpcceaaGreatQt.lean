/- Proved: what the document's Text of layer 5 answers. Condition: tokens are known, each copy has where to take from. -/
import Derived.Test.YtpimecnpdpcceaaGreatLl
namespace Go.Proofs.YtpimecnpdpcceaaGreat
open Go.RowKit

theorem infoQ : (Tryz.prog.info? 155).map (fun i => (i.zero, i.size, i.bytes)) = some (some (.agg (tc zeroT)), 3, 24) := by kernel_rfl
theorem infoQ2 : (Tryz.prog.info? 155).map (fun i => (i.zero, i.size)) = some (some (.agg (tc zeroT)), 3) := by kernel_rfl
theorem elQ : El 129 155 3 24 tl := ⟨by kernel_rfl, by
  obtain ⟨it, h1, h2, h3, h4⟩ := info_all 155 _ _ _ infoQ
  exact ⟨it, _, h1, h2, h3, h4, rfl⟩, tl_len, tl_one, by omega⟩
theorem Cells.tkf {w : World} {g o cap n : Nat} {l : List Lz.Tk} (h : Cells tl w (.slice (some ⟨g, o, none⟩) l.length cap) l) (hn : n = 3) (j : Nat) (x : Lz.Tk) (hx : l[j]? = some x) : w.cell? ⟨g, o + j * n, none⟩ = some (.int .u8 (x.b.toNat : Nat)) ∧ w.cell? ⟨g, o + j * n + 1, none⟩ = some (.int .i64 (x.back : Nat)) ∧ w.cell? ⟨g, o + j * n + 2, none⟩ = some (.int .i64 (x.len : Nat)) := by
  rw [hn]
  exact ⟨h.cell tl_len j x hx 0 (by omega) _ rfl, h.cell tl_len j x hx 1 (by omega) _ rfl, h.cell tl_len j x hx 2 (by omega) _ rfl⟩
def QtRel (w : World) (t : Lz.Tk) (out : List UInt8) (tv iv : Value) (wr : World) : Prop :=
  ∃ j : Nat, iv = .int .i64 j ∧ j ≤ t.len ∧ Own 5 1 bl w.heap.size wr tv (Lz.copyN t.back j out) ∧ Keep w wr

set_option maxRecDepth 100000 in
set_option maxHeartbeats 4000000 in
theorem qtext (N : Nat) (hN : N ≤ 65536) (v : Value) (T : List Lz.Tk) (w : World) (h : Cells tl w v T) (hT : T.length ≤ 65536) (hok : Lz.okL N 0 T) : Calls Tryz.prog 74 #[v] w fun e w' => e = .returned (.string ⟨(Lz.textT T).toArray⟩) ∧ Keep w w' := by
  obtain ⟨a, cap, rfl, _, _⟩ := h.form
  obtain ⟨n, hn3⟩ : ∃ n, n = 3 := ⟨3, rfl⟩
  have hsz : ∀ w, (Go.sizeOf 155).run Tryz.prog w = .ok n w := fun w => by rw [hn3]; exact Tryz.sizeOf155 w
  have HN := Lib.hid hn3
  have HC := Lib.hid h
  have HOK := Lib.hid hok
  obtain ⟨L, hL⟩ : ∃ n, T.length = n := ⟨_, rfl⟩
  have HL := Lib.hid hL
  rw [hL] at hT ⊢
  clear hn3 h hL hok
  go_enter Tryz.func74, Tryz.ntmps74
  go_wp2
  go_loopw [3, 4] (fun tv iv wr => JoRel w T tv iv wr) (fun _ iv _ => L - (intOf iv).toNat)
  case atStart => exact ⟨0, rfl, Nat.zero_le _, Own.nil _ _, Keep.refl _⟩
  case round =>
    obtain ⟨k, rfl, hk, hown, hw⟩ := hrel
    rw [HL.out] at hk
    by_cases hlt : k < L
    · have hlti : (k : Int) < L := by omega
      have hcl : Cells tl w (.slice a T.length cap) T := HC.out
      obtain ⟨g, o, cap', e, _, _, _⟩ := hcl.ptr k (by rw [HL.out]; exact hlt)
      simp at e
      obtain ⟨rfl, rfl⟩ := e
      obtain ⟨x, hx⟩ : ∃ x, T[k]? = some x := ⟨_, List.getElem?_eq_getElem (by rw [HL.out]; exact hlt)⟩
      obtain ⟨d0, d1, d2⟩ := (hcl.keep hw).tkf HN.out k x hx
      have HF := Lib.hid (fun w' (q : Keep w w') => (hcl.keep q).tkf HN.out k x hx)
      have hokx := Lz.okL_at HOK.out hx
      have HTX := Lib.hid (show Lz.textT (T.take (k + 1)) = Lz.stepT (Lz.textT (T.take k)) x from by rw [take_snoc hx, Lz.textT_snoc])
      generalize Lz.textT (T.take k) = out at *
      have HOW := Lib.hid hown
      have HKW := Lib.hid hw
      have HOKX := Lib.hid hokx
      have hroom := Lz.okT_room hokx
      clear hcl hx hw hown hokx
      by_cases hx0 : x.len = 0
      · rw [hx0] at d2
        have HBS := Lib.hid (slice_byte x.b)
        have HBR := Lib.hid (fun w => Row.byte w x.b)
        have HSt := Lib.hid (show Lz.stepT out x = out ++ [x.b] from by unfold Lz.stepT; rw [if_pos hx0])
        have hsT : out.length + 1 ≤ N := by have := Lz.sizeT_pos x; omega
        have HX0 := Lib.hid hx0
        generalize x.b = c at *
        clear hx0 d1
        go_wp2_with (first | (refine at_slice [(0, .int .u8 (c.toNat : Nat))] rfl _ (HBS.out _) ?_) | (at_builtin; refine wp_app elB rfl _ _ rfl w.heap.size _ _ out [c] rfl rfl (HOW.out.keep ((Keep.refl _).alloc _)) (HBR.out _).cells ?q1 ?q2 ?q3 ?_))
        case q1 => simp; omega
        case q2 => simp; omega
        case q3 => have := HKW.out.size; simp; omega
        intro v9 w9 k1 k2
        have HK9 := Lib.hid ((HOW.out.keep ((Keep.refl _).alloc _)).grown (HKW.out.alloc _) (Nat.le_refl _) k2)
        have HO9 := Lib.hid k1
        have e2 := (HF.out w9 HK9.out).2.2
        rw [HX0.out] at e2
        have Hst := Lib.hid (show QtRel w x (out ++ [c]) v9 (.int .i64 0) w9 from ⟨0, rfl, Nat.zero_le _, HO9.out, HK9.out⟩)
        clear k1 k2 d0 d2
        go_wp2
        go_loopw [3, 5] (fun tv iv wr' => QtRel w x (out ++ [c]) tv iv wr') (fun _ iv _ => x.len - (intOf iv).toNat)
        case atStart => exact Hst.out
        case round =>
          obtain ⟨j, rfl, hj, hown, hw⟩ := hrel
          obtain rfl : j = 0 := by have := HX0.out; omega
          have e3 := (HF.out _ hw).2.2
          rw [HX0.out] at e3
          have HO := Lib.hid (show Own 5 1 bl w.heap.size wr u3 (Lz.textT (T.take (k + 1))) from by rw [HTX.out, HSt.out]; exact hown)
          have HK := Lib.hid hw
          clear hown hw e2 hj
          go_wp2
          go_roundw
          case rel => exact ⟨k + 1, by go_num, by rw [HL.out]; omega, HO.out, HK.out⟩
          case measure => simp [intOf]; omega
      · have hx0i : ¬ ((x.len : Nat) : Int) = 0 := by omega
        have hx0b : (((x.len : Nat) : Int) == 0) = false := by simpa using hx0
        have HSt := Lib.hid (show Lz.stepT out x = Lz.copyN x.back x.len out from by unfold Lz.stepT; rw [if_neg hx0])
        have hxl : x.len ≤ N := by have : x.len ≤ Lz.sizeT x := by unfold Lz.sizeT; omega
                                   omega
        have hback : 1 ≤ x.back ∧ x.back ≤ out.length := by
          obtain ⟨_, ⟨h1, _⟩ | ⟨_, h2, h3, _, _⟩⟩ := HOKX.out
          · exact absurd h1 hx0
          · exact ⟨h2, h3⟩
        have hxs : out.length + x.len ≤ N := by have : x.len ≤ Lz.sizeT x := by unfold Lz.sizeT; omega
                                                omega
        have Hst := Lib.hid (show QtRel w x out u3 (.int .i64 0) wr from ⟨0, rfl, Nat.zero_le _, HOW.out, HKW.out⟩)
        clear HOW HKW d0 d1
        go_wp2
        go_loopw [3, 5] (fun tv iv wr' => QtRel w x out tv iv wr') (fun _ iv _ => x.len - (intOf iv).toNat)
        case atStart => exact Hst.out
        case round =>
          obtain ⟨j, rfl, hj, hown, hw⟩ := hrel
          obtain ⟨_, e1, e2⟩ := HF.out _ hw
          have HK := Lib.hid hw
          clear d2
          by_cases hjl : j < x.len
          · have hlen := Lz.copyN_len x.back j out
            have HSn := Lib.hid (Lz.copyN_snoc x.back j out)
            have hrow := (hown.row elB).cells
            obtain ⟨g2, o2, cap2, hv, _, _, _⟩ := hrow.ptr 0 (by omega)
            subst hv
            obtain ⟨D, hD⟩ : ∃ D, D = (Lz.copyN x.back j out).length - x.back := ⟨_, rfl⟩
            have hDl : D < (Lz.copyN x.back j out).length := by omega
            obtain ⟨c, hc⟩ : ∃ c, (Lz.copyN x.back j out)[D]? = some c := ⟨_, List.getElem?_eq_getElem hDl⟩
            have dc := hrow.byte D c hc
            have HSc := Lib.hid (show Lz.copyN x.back (j + 1) out = Lz.copyN x.back j out ++ [c] from by rw [HSn.out, ← hD, List.getD_eq_getElem?_getD, hc]; rfl)
            have hDi : ((Lz.copyN x.back j out).length : Int) - (x.back : Nat) = (D : Nat) := by omega
            have HO := Lib.hid hown
            have HBS := Lib.hid (slice_byte c)
            have HBR := Lib.hid (fun w => Row.byte w c)
            have hDN : (Lz.copyN x.back j out).length < N := by omega
            generalize Lz.copyN x.back j out = oj at *
            have hjli : (j : Int) < (x.len : Nat) := by omega
            have hbl : x.back ≤ oj.length := by omega
            clear hlen hD hc hrow hown hw HSn
            go_wp2_with (first | (refine at_slice [(0, .int .u8 (c.toNat : Nat))] rfl _ (HBS.out _) ?_) | (at_builtin; refine wp_app elB rfl _ _ rfl w.heap.size _ _ oj [c] rfl rfl (HO.out.keep ((Keep.refl _).alloc _)) (HBR.out _).cells ?r1 ?r2 ?r3 ?_))
            case r1 => simp; omega
            case r2 => simp; omega
            case r3 => have := HK.out.size; simp; omega
            intro v9 w9 k1 k2
            have HK9 := Lib.hid ((HO.out.keep ((Keep.refl _).alloc _)).grown (HK.out.alloc _) (Nat.le_refl _) k2)
            have HO9 := Lib.hid k1
            clear k1 k2 dc e1 e2
            go_wp2
            go_roundw
            case rel => exact ⟨j + 1, by go_num, by omega, by rw [HSc.out]; exact HO9.out, HK9.out⟩
            case measure => simp [intOf]; omega
          · have hje : j = x.len := by omega
            have hjli : ¬ (j : Int) < (x.len : Nat) := by omega
            have HO := Lib.hid (show Own 5 1 bl w.heap.size wr u3 (Lz.textT (T.take (k + 1))) from by rw [HTX.out, HSt.out, ← hje]; exact hown)
            clear hown hw e1
            go_wp2
            go_roundw
            case rel => exact ⟨k + 1, by go_num, by rw [HL.out]; omega, HO.out, HK.out⟩
            case measure => simp [intOf]; omega
    · have hlti : ¬ (k : Int) < L := by omega
      have hown' : Own 5 1 bl w.heap.size wr u3 (Lz.textT T) := by rwa [List.take_of_length_le (by rw [HL.out]; omega)] at hown
      obtain ⟨tx, htx⟩ : ∃ t, Lz.textT T = t := ⟨_, rfl⟩
      rw [htx] at hown'
      have HTx := Lib.hid htx
      have hcv := hown'.conv
      obtain ⟨a2, cap2, rfl, _, _⟩ := (hown'.row elB).cells.form
      have HKE := Lib.hid hw
      clear hown hown' hw htx
      go_wp2
      go_ret
      rw [HTx.out]
      exact ⟨rfl, HKE.out⟩
end Go.Proofs.YtpimecnpdpcceaaGreat
