/- Proved: what the document's Replace answers. Condition: lists are short enough for memory. -/
import Derived.Test.YtfikdeobejhblaaDk
import Derived.Test.YtfikdeobejhblaaRn
import Derived.Test.YtfikdeobejhblaaMo
namespace Go.Proofs.Ytfikdeobejhblaa
open Go.RowKit

def othQ (q : Int) (r : Rt) : Bool := !isB q r
def QrPost (w : World) (l : List Rt) (k : Int) (m : List Rt) (e : Ending) (w' : World) : Prop :=
  ∃ v', e = .returned (.tuple #[v', .int .i64 (replE newE l k m)]) ∧ Keep w w' ∧ (replE newE l k m = 0 → ∃ l', Row rl 37 w' v' l' ∧ Sorted l' ∧ l'.Perm (replL l k m))
set_option maxRecDepth 100000 in
set_option maxHeartbeats 1000000 in
theorem qrepl (v : Value) (l : List Rt) (q : Int) (am : Option Addr) (cm : Nat) (m : List Rt) (w : World) (h : Cells rl w v l) (hl : l.length ≤ 300) (hm : ArgN rl w am cm m) (hml : m.length ≤ 300) : Calls Try.prog 14 #[v, .int .i64 q, .slice am m.length cm] w (QrPost w l q m) := by
  by_cases h1 : q < 0
  · have HE := Lib.hid (show replE newE l q m = 2 by unfold replE; rw [if_pos (.inl h1)])
    clear h hm hl hml
    generalize m.length = M at *
    go_enter Try.func14, Try.ntmps14
    go_wp2
    go_ret2
    exact ⟨.slice none 0 0, by rw [HE.out]; rfl, Keep.refl w, fun h => by rw [HE.out] at h; simp at h⟩
  · by_cases h2 : 16 < q
    · have HE := Lib.hid (show replE newE l q m = 2 by unfold replE; rw [if_pos (.inr (by omega))])
      clear h hm hl hml
      generalize m.length = M at *
      go_enter Try.func14, Try.ntmps14
      go_wp2
      go_ret2
      exact ⟨.slice none 0 0, by rw [HE.out]; rfl, Keep.refl w, fun h => by rw [HE.out] at h; simp at h⟩
    · have HE := Lib.hid (show replE newE l q m = if ∀ r ∈ m, (bkt r.to : Int) = q then newE (replL l q m) else 1 by unfold replE; rw [if_neg (by omega)])
      obtain ⟨a, cap, rfl, hc1, hc2⟩ := h.form
      obtain ⟨n, hn⟩ : ∃ n, n = 20 := ⟨20, rfl⟩
      have hsz : ∀ w, (Go.sizeOf 37).run Try.prog w = .ok n w := fun w => by rw [hn]; exact Try.sizeOf37 w
      have hn0 : ¬ n = 0 := by omega
      obtain ⟨n2, hn2⟩ : ∃ n, n = 18 := ⟨18, rfl⟩
      have hsz2 : ∀ w, (Go.sizeOf 34).run Try.prog w = .ok n2 w := fun w => by rw [hn2]; exact Try.sizeOf34 w
      have hn20 : ¬ n2 = 0 := by omega
      have HN := Lib.hid hn
      have HN2 := Lib.hid hn2
      have H := Lib.hid h
      have HMA := Lib.hid hm
      obtain ⟨L, hL⟩ : ∃ n, l.length = n := ⟨_, rfl⟩
      have HL := Lib.hid hL
      obtain ⟨M, hM⟩ : ∃ n, m.length = n := ⟨_, rfl⟩
      have HM := Lib.hid hM
      rw [hL] at H hc1 hl ⊢
      rw [hM] at hml ⊢
      clear h hm hn hn2 hL hM
      go_enter Try.func14, Try.ntmps14
      go_wp2
      go_loopw [8, 9] (fun lv i wr => QpRel w (othQ q) l lv i wr) (fun _ i _ => L - (intOf i).toNat)
      case atStart => exact ⟨0, rfl, Nat.zero_le _, Own.nil _ _, Keep.refl _⟩
      case round =>
        obtain ⟨k, rfl, hk, ho, hkp⟩ := hrel
        rw [HL.out] at hk
        by_cases hlt : k < L
        · obtain ⟨g, o, cap', e, _, _, _⟩ := (show Cells rl w (.slice a l.length cap) l from by rw [HL.out]; exact H.out).ptr k (by rw [HL.out]; exact hlt)
          rw [HL.out] at e
          simp at e
          obtain ⟨rfl, rfl⟩ := e
          obtain ⟨x, hx⟩ : ∃ x, l[k]? = some x := ⟨_, List.getElem?_eq_getElem (by rw [HL.out]; exact hlt)⟩
          have hcl : Cells rl wr (.slice (some ⟨g, o, none⟩) l.length cap) l := by rw [HL.out]; exact H.out.keep hkp
          have d1 := hcl.to HN2.out HN.out k x hx
          have HCL := Lib.hid hcl
          have HBK := Lib.hid (qbucket x.to x.ok).keep
          have HX := Lib.hid hx
          have HO := Lib.hid ho
          have HK := Lib.hid hkp
          have hfl := filt_len (othQ q) l k
          rw [HL.out] at hfl
          clear hcl hx ho hkp
          by_cases hbx : (bkt x.to : Int) ≠ q
          · have hne : (((bkt x.to : Nat) : Int) != q) = true := by simp [hbx]
            have HFK := Lib.hid (filt_keep (p := othQ q) HX.out (by simp [othQ, isB, hbx]))
            have HSX := Lib.hid (slice_one x)
            have HRX := Lib.hid (fun w => Row.one w x)
            obtain ⟨X, hX⟩ : ∃ X, rc x = X := ⟨_, rfl⟩
            have HXE := Lib.hid hX
            simp only [hX] at HSX HRX
            obtain ⟨c, hc⟩ : ∃ c, bkt x.to = c := ⟨_, rfl⟩
            rw [hc] at HBK hne
            clear hc hbx hX
            go_wp2_with fail
            refine (HBK.out _).mono ?_
            rintro e w2 ⟨rfl, b2⟩
            have dx := (HCL.out.keep b2).rt HN.out k x HX.out
            rw [HXE.out] at dx
            have HK2 := Lib.hid (show Keep wr (w2.alloc (.cells X 37)) from b2.alloc _)
            have HO2 := Lib.hid (HO.out.keep HK2.out)
            have HKW := Lib.hid (HK.out.trans HK2.out)
            have hbx : w.heap.size ≤ (w2.alloc (.cells X 37)).heap.size := HKW.out.size
            clear b2 d1 HBK
            go_wp2_with (first | (refine at_slice [(0, .agg X)] rfl _ (HSX.out _) ?_) | (at_builtin; refine wp_app elR rfl _ _ rfl w.heap.size _ _ _ [x] rfl rfl HO2.out (HRX.out w2).cells ?q1 ?q2 ?q3 ?_))
            case q1 => simp only [List.length_singleton]; omega
            case q2 => simp only [List.length_singleton]; omega
            case q3 => exact hbx
            intro v9 w9 k1 k2
            have HRL := Lib.hid (show QpRel w (othQ q) l v9 (.int .i64 ((k : Int) + 1)) w9 from ⟨k + 1, by go_num, by rw [HL.out]; omega, by rw [HFK.out]; exact k1, HO2.out.grown HKW.out (Nat.le_refl _) k2⟩)
            clear k1 k2 hbx dx
            go_wp2
            go_roundw
            case rel => exact HRL.out
            case measure => simp [intOf]; omega
          · have hne : (((bkt x.to : Nat) : Int) != q) = false := by simp; omega
            have HFK := Lib.hid (filt_skip (p := othQ q) HX.out (by simp [othQ, isB]; omega))
            obtain ⟨c, hc⟩ : ∃ c, bkt x.to = c := ⟨_, rfl⟩
            rw [hc] at HBK hne
            clear hc hbx
            go_wp2_with fail
            refine (HBK.out _).mono ?_
            rintro e w2 ⟨rfl, b2⟩
            have HRL := Lib.hid (show QpRel w (othQ q) l _ (.int .i64 ((k : Int) + 1)) w2 from ⟨k + 1, by go_num, by rw [HL.out]; omega, by rw [HFK.out]; exact HO.out.keep b2, HK.out.trans b2⟩)
            clear b2 d1 HBK
            go_wp2
            go_roundw
            case rel => exact HRL.out
            case measure => simp [intOf]; omega
        · obtain rfl : k = L := by omega
          have HO := Lib.hid (show Own 37 20 rl w.heap.size wr _ (othB l q) from by
            have := ho
            rwa [List.take_of_length_le (by rw [HL.out]; exact Nat.le_refl _)] at this)
          have HK := Lib.hid hkp
          clear ho hkp
          obtain ⟨a8, c8, e8, _, _⟩ := (HO.out.row elR).cells.form
          subst e8
          have hol : (othB l q).length ≤ l.length := List.length_filter_le _ _
          rw [HL.out] at hol
          generalize wr = wo at *
          go_wp2
          go_loopw [10] (fun i wx => RbRel wo q m i wx) (fun i _ => M - (intOf i).toNat)
          case atStart => exact ⟨0, rfl, Nat.zero_le _, by simp, Keep.refl _⟩
          case round =>
            obtain ⟨j, rfl, hj, hr, hkq⟩ := hrel
            rw [HM.out] at hj
            by_cases hjl : j < M
            · have hmc := (HMA.out.cells (by intro e; have := HM.out; rw [e] at this; simp at this; omega)).keep (HK.out.trans hkq)
              obtain ⟨gm, om, cm', em, _, _, _⟩ := hmc.ptr j (by rw [HM.out]; exact hjl)
              simp at em
              obtain ⟨rfl, rfl⟩ := em
              obtain ⟨x, hx⟩ : ∃ x, m[j]? = some x := ⟨_, List.getElem?_eq_getElem (by rw [HM.out]; exact hjl)⟩
              have d1 := hmc.to HN2.out HN.out j x hx
              have HBK := Lib.hid (qbucket x.to x.ok).keep
              have HX := Lib.hid hx
              have HR := Lib.hid hr
              have HKQ := Lib.hid hkq
              clear hmc hx hr hkq
              by_cases hbx : (bkt x.to : Int) = q
              · have hne : (((bkt x.to : Nat) : Int) != q) = false := by simp [hbx]
                have HBX := Lib.hid hbx
                obtain ⟨c, hc⟩ : ∃ c, bkt x.to = c := ⟨_, rfl⟩
                rw [hc] at HBK hne
                clear hc hbx
                go_wp2_with fail
                refine (HBK.out _).mono ?_
                rintro e w4 ⟨rfl, b4⟩
                have HK4 := Lib.hid (HKQ.out.trans b4)
                clear b4 d1
                go_wp2
                go_roundw
                case rel => exact ⟨j + 1, by go_num, by rw [HM.out]; omega, fun r hr => by
                  rw [List.take_add_one, HX.out] at hr
                  rcases List.mem_append.1 hr with h | h
                  · exact HR.out r h
                  · simp at h; rw [h]; exact HBX.out, HK4.out⟩
                case measure => simp [intOf]; omega
              · have hne : (((bkt x.to : Nat) : Int) != q) = true := by simp [hbx]
                have HEE := Lib.hid (show replE newE l q m = 1 by rw [HE.out, if_neg (fun h => hbx (h x (List.mem_of_getElem? HX.out)))])
                obtain ⟨c, hc⟩ : ∃ c, bkt x.to = c := ⟨_, rfl⟩
                rw [hc] at HBK hne
                clear hc hbx
                go_wp2_with fail
                refine (HBK.out _).mono ?_
                rintro e w4 ⟨rfl, b4⟩
                have HK4 := Lib.hid (HK.out.trans (HKQ.out.trans b4))
                clear b4 d1
                go_wp2
                go_ret2
                exact ⟨.slice none 0 0, by rw [HEE.out]; rfl, HK4.out, fun h => by rw [HEE.out] at h; simp at h⟩
            · obtain rfl : j = M := by omega
              have hall : ∀ r ∈ m, (bkt r.to : Int) = q := fun r hm => hr r (by rw [List.take_of_length_le (by rw [HM.out]; exact Nat.le_refl _)]; exact hm)
              have HEE := Lib.hid (show replE newE l q m = newE (replL l q m) by rw [HE.out, if_pos hall])
              have HO2 := Lib.hid (HO.out.keep hkq)
              have HMA2 := Lib.hid (HMA.out.keep (HK.out.trans hkq))
              have HK2 := Lib.hid (HK.out.trans hkq)
              have hbw := HK2.out.size
              have HML := HM.out
              clear hr hkq hall HE
              go_wp2_with (at_builtin; refine wp_appN elR rfl _ _ rfl w.heap.size _ _ _ _ (othB l q) m rfl HM.out rfl HO2.out HMA2.out ?p1 ?p2 ?p3 ?_)
              case p1 => rw [HM.out]; omega
              case p2 => rw [HM.out]; omega
              case p3 => exact hbw
              intro v9 w9 k1 k2
              have HRO := Lib.hid (k1.row elR)
              have HK9 := Lib.hid (HO2.out.grown HK2.out (Nat.le_refl _) k2)
              have hll : (othB l q ++ m).length ≤ 1000 := by rw [List.length_append, HM.out]; omega
              obtain ⟨a9, c9, e9, _, _⟩ := HRO.out.cells.form
              subst e9
              have HQN := Lib.hid (qnew a9 c9 (othB l q ++ m) w9 ⟨fun _ => HRO.out.cells, HRO.out.cells.small⟩ hll)
              clear k1 k2
              generalize (othB l q ++ m).length = LL at *
              go_wp2_with fail
              refine HQN.out.mono ?_
              rintro e w10 ⟨v10, rfl, k10, hc10⟩
              have HFI := Lib.hid (show QrPost w l q m (.returned (.tuple #[v10, .int .i64 (newE (othB l q ++ m))])) w10 from ⟨v10, by rw [HEE.out]; rfl, HK9.out.trans k10, fun h0 => hc10 (by rw [HEE.out] at h0; exact h0)⟩)
              clear hc10 k10 HQN
              generalize newE (othB l q ++ m) = E at *
              go_wp2
              go_ret2
              exact HFI.out
end Go.Proofs.Ytfikdeobejhblaa
