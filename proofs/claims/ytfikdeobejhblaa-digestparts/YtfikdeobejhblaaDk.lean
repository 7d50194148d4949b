/- Proved: what the document's Part answers. Condition: lists are short enough for memory. -/
import Derived.Test.YtfikdeobejhblaaDj
namespace Go.Proofs.Ytfikdeobejhblaa
open Go.RowKit

def QpRel (w : World) (p : Rt → Bool) (l : List Rt) (lv i : Value) (wr : World) : Prop := ∃ k : Nat, i = .int .i64 k ∧ k ≤ l.length ∧ Own 37 20 rl w.heap.size wr lv ((l.take k).filter p) ∧ Keep w wr
theorem filt_len (p : Rt → Bool) (l : List Rt) (k : Nat) : ((l.take k).filter p).length ≤ l.length := Nat.le_trans (List.length_filter_le _ _) (by rw [List.length_take]; omega)
theorem filt_keep {p : Rt → Bool} {l : List Rt} {k : Nat} {x : Rt} (hx : l[k]? = some x) (hp : p x = true) : (l.take (k + 1)).filter p = (l.take k).filter p ++ [x] := by
  rw [List.take_add_one, hx, List.filter_append]
  simp [hp]
theorem filt_skip {p : Rt → Bool} {l : List Rt} {k : Nat} {x : Rt} (hx : l[k]? = some x) (hp : p x = false) : (l.take (k + 1)).filter p = (l.take k).filter p := by
  rw [List.take_add_one, hx, List.filter_append]
  simp [hp]
set_option maxRecDepth 100000 in
set_option maxHeartbeats 1000000 in
theorem qpart (v : Value) (l : List Rt) (q : Int) (w : World) (h : Cells rl w v l) (hl : l.length ≤ 100000) : Calls Try.prog 24 #[v, .int .i64 q] w fun e w' => ∃ v', e = .returned v' ∧ Own 37 20 rl w.heap.size w' v' (partB l q) ∧ Keep w w' := by
  obtain ⟨a, cap, rfl, hc1, hc2⟩ := h.form
  obtain ⟨n, hn⟩ : ∃ n, n = 20 := ⟨20, rfl⟩
  have hsz : ∀ w, (Go.sizeOf 37).run Try.prog w = .ok n w := fun w => by rw [hn]; exact Try.sizeOf37 w
  have hn0 : ¬ n = 0 := by omega
  obtain ⟨n2, hn2⟩ : ∃ n, n = 18 := ⟨18, rfl⟩
  have hsz2 : ∀ w, (Go.sizeOf 34).run Try.prog w = .ok n2 w := fun w => by rw [hn2]; exact Try.sizeOf34 w
  have hn20 : ¬ n2 = 0 := by omega
  have HN := Lib.hid hn
  have HN2 := Lib.hid hn2
  have H := Lib.hid h
  obtain ⟨L, hL⟩ : ∃ n, l.length = n := ⟨_, rfl⟩
  have HL := Lib.hid hL
  rw [hL] at H hc1 hl ⊢
  clear h hn hn2 hL
  go_enter Try.func24, Try.ntmps24
  go_wp2
  go_loopw [5, 6] (fun lv i wr => QpRel w (isB q) l lv i wr) (fun _ i _ => L - (intOf i).toNat)
  case atStart => exact ⟨0, rfl, Nat.zero_le _, Own.nil _ _, Keep.refl _⟩
  case round =>
    obtain ⟨k, rfl, hk, ho, hkp⟩ := hrel
    rw [HL.out] at hk
    by_cases hlt : k < L
    · obtain ⟨g, o, cap', e, _, _, _⟩ := (show Cells rl w (.slice a l.length cap) l from by rw [HL.out]; exact H.out).ptr k (by rw [HL.out]; exact hlt)
      rw [HL.out] at e
      simp at e
      obtain ⟨rfl, rfl⟩ := e
      obtain ⟨x, hx⟩ : ∃ x, l[k]? = some x := ⟨_, List.getElem?_eq_getElem (by rw [HL.out]; exact hlt)⟩
      have hcl : Cells rl wr (.slice (some ⟨g, o, none⟩) l.length cap) l := by rw [HL.out]; exact H.out.keep hkp
      have d1 := hcl.to HN2.out HN.out k x hx
      have HCL := Lib.hid hcl
      have HBK := Lib.hid (qbucket x.to x.ok).keep
      have HX := Lib.hid hx
      have HO := Lib.hid ho
      have HK := Lib.hid hkp
      have hfl := filt_len (isB q) l k
      rw [HL.out] at hfl
      clear hcl hx ho hkp
      by_cases hbx : (bkt x.to : Int) = q
      · have hne : (((bkt x.to : Nat) : Int) == q) = true := by simp [hbx]
        have HFK := Lib.hid (filt_keep (p := isB q) HX.out (by simp [isB, hbx]))
        have HSX := Lib.hid (slice_one x)
        have HRX := Lib.hid (fun w => Row.one w x)
        obtain ⟨X, hX⟩ : ∃ X, rc x = X := ⟨_, rfl⟩
        have HXE := Lib.hid hX
        simp only [hX] at HSX HRX
        obtain ⟨c, hc⟩ : ∃ c, bkt x.to = c := ⟨_, rfl⟩
        rw [hc] at HBK hne
        clear hc hbx hX
        go_wp2_with fail
        refine (HBK.out _).mono ?_
        rintro e w2 ⟨rfl, b2⟩
        have dx := (HCL.out.keep b2).rt HN.out k x HX.out
        rw [HXE.out] at dx
        have HK2 := Lib.hid (show Keep wr (w2.alloc (.cells X 37)) from b2.alloc _)
        have HO2 := Lib.hid (HO.out.keep HK2.out)
        have HKW := Lib.hid (HK.out.trans HK2.out)
        have hbx : w.heap.size ≤ (w2.alloc (.cells X 37)).heap.size := HKW.out.size
        clear b2 d1 HBK
        go_wp2_with (first | (refine at_slice [(0, .agg X)] rfl _ (HSX.out _) ?_) | (at_builtin; refine wp_app elR rfl _ _ rfl w.heap.size _ _ _ [x] rfl rfl HO2.out (HRX.out w2).cells ?q1 ?q2 ?q3 ?_))
        case q1 => simp only [List.length_singleton]; omega
        case q2 => simp only [List.length_singleton]; omega
        case q3 => exact hbx
        intro v9 w9 k1 k2
        have HRL := Lib.hid (show QpRel w (isB q) l v9 (.int .i64 ((k : Int) + 1)) w9 from ⟨k + 1, by go_num, by rw [HL.out]; omega, by rw [HFK.out]; exact k1, HO2.out.grown HKW.out (Nat.le_refl _) k2⟩)
        clear k1 k2 hbx dx
        go_wp2
        go_roundw
        case rel => exact HRL.out
        case measure => simp [intOf]; omega
      · have hne : (((bkt x.to : Nat) : Int) == q) = false := by simp [hbx]
        have HFK := Lib.hid (filt_skip (p := isB q) HX.out (by simp [isB, hbx]))
        obtain ⟨c, hc⟩ : ∃ c, bkt x.to = c := ⟨_, rfl⟩
        rw [hc] at HBK hne
        clear hc hbx
        go_wp2_with fail
        refine (HBK.out _).mono ?_
        rintro e w2 ⟨rfl, b2⟩
        have HRL := Lib.hid (show QpRel w (isB q) l _ (.int .i64 ((k : Int) + 1)) w2 from ⟨k + 1, by go_num, by rw [HL.out]; omega, by rw [HFK.out]; exact HO.out.keep b2, HK.out.trans b2⟩)
        clear b2 d1 HBK
        go_wp2
        go_roundw
        case rel => exact HRL.out
        case measure => simp [intOf]; omega
    · obtain rfl : k = L := by omega
      have HO := Lib.hid (show Own 37 20 rl w.heap.size wr _ (partB l q) from by
        have := ho
        rwa [List.take_of_length_le (by rw [HL.out]; exact Nat.le_refl _)] at this)
      have HK := Lib.hid hkp
      clear ho hkp
      go_wp2
      go_ret
      exact ⟨_, rfl, HO.out, HK.out⟩
end Go.Proofs.Ytfikdeobejhblaa
