/- Proved: what the document's Fold of layer 8 answers. Condition: the routes are in order, and no more than a table has. -/
import Derived.Test.YtgkgpdlakamgiaaGreatRq
import Derived.Test.YtgkgpdlakamgiaaGreatOi
namespace Go.Proofs.YtgkgpdlakamgiaaGreat
open Go.RowKit

def QfRel (w : World) (l : List Ic) (R : List Rt × Nat × Int) (tv iv : Value) (wr : World) : Prop := ∃ (k : Nat) (t : List Rt), iv = .int .i64 k ∧ k ≤ l.length ∧ R = foldS t (l.drop k) k ∧ Row rl 57 wr tv t ∧ Sorted t ∧ t.length ≤ 300 ∧ Keep w wr
def QfPost (w : World) (l : List Ic) (R : List Rt × Nat × Int) (e : Ending) (w' : World) : Prop :=
  Keep w w' ∧ ((R.2.2 = 0 ∧ ∃ v, e = .returned (.tuple #[v, .int .i64 (l.length : Nat), .int .i64 0]) ∧ Row rl 57 w' v R.1) ∨ (R.2.2 ≠ 0 ∧ e = .returned (.tuple #[.slice none 0 0, .int .i64 (R.2.1 : Nat), .int .i64 R.2.2])))
set_option maxRecDepth 100000 in
set_option maxHeartbeats 2000000 in
theorem qfold (u : Value) (t : List Rt) (v : Value) (l : List Ic) (w : World) (ht : Row rl 57 w u t) (hs : Sorted t) (hf : t.length ≤ 300) (h : Ls w v l) (hl : l.length ≤ 1000000) : Calls Tryz.prog 16 #[u, v] w (QfPost w l (foldS t l 0)) := by
  obtain ⟨a, cap, rfl⟩ := h.form
  obtain ⟨n, hn⟩ : ∃ n, n = 21 := ⟨21, rfl⟩
  have hsz : ∀ w, (Go.sizeOf 59).run Tryz.prog w = .ok n w := fun w => by rw [hn]; exact Tryz.sizeOf59 w
  have hn0 : ¬ n = 0 := by omega
  have HN := Lib.hid hn
  have HL := Lib.hid h
  have HT := Lib.hid ht
  have HS := Lib.hid hs
  have HF := Lib.hid hf
  obtain ⟨N, hN⟩ : ∃ N, l.length = N := ⟨_, rfl⟩
  have HLN := Lib.hid hN
  rw [hN] at hl ⊢
  obtain ⟨R, hR⟩ : ∃ R, foldS t l 0 = R := ⟨_, rfl⟩
  rw [hR]
  have HR := Lib.hid hR
  clear hn h hN hR ht hs hf
  unfold QfPost
  rw [HLN.out]
  go_enter Tryz.func16, Tryz.ntmps16
  go_wp2
  go_loopw [0, 7] (fun tv i wr => QfRel w l R tv i wr) (fun _ i _ => N - (intOf i).toNat)
  case atStart => exact ⟨0, t, rfl, Nat.zero_le _, HR.out.symm, HT.out, HS.out, HF.out, Keep.refl _⟩
  case round =>
    obtain ⟨k, t', rfl, hk1, hk2, hk3, hk4, hk5, hk⟩ := hrel
    rw [HLN.out] at hk1
    by_cases hlt : k < N
    · have hcl := HL.out.at k (by rw [HLN.out]; exact hlt)
      obtain ⟨g, o, cap', e, _, _, _⟩ := hcl.ptr k (by rw [HLN.out]; exact hlt)
      simp at e
      obtain ⟨rfl, rfl⟩ := e
      obtain ⟨x, hx⟩ : ∃ x, l[k]? = some x := ⟨_, List.getElem?_eq_getElem (by rw [HLN.out]; exact hlt)⟩
      have dx := (hcl.keep hk).ic HN.out k x hx
      rw [drop_cons' hx, foldS] at hk2
      have HDo := Lib.hid (qdo _ t' x wr hk3 hk4 hk5)
      have HRE := Lib.hid hk2
      have HOK := Lib.hid (doS_ok hk4 hk5 x.kind x.route)
      have HK := Lib.hid hk
      clear hcl hx hk hk2 hk3 hk4 hk5
      by_cases hd : (doS t' x.kind x.route).2 = 0
      · have HR2 := Lib.hid (show R = foldS (doS t' x.kind x.route).1 (l.drop (k + 1)) (k + 1) from by rw [HRE.out, if_pos hd])
        have hd' : (doS t' x.kind x.route).2 = 0 := hd
        clear hd
        generalize doS t' x.kind x.route = Y at *
        obtain ⟨y1, y2⟩ := Y
        simp only at hd' HR2 HDo
        subst hd'
        go_wp2_with fail
        refine HDo.out.mono ?_
        rintro e w2 ⟨v2, rfl, r2, k2⟩
        have HR2' := Lib.hid r2
        have HK2 := Lib.hid (HK.out.trans k2)
        clear r2 k2 dx
        go_wp2
        go_roundw
        case rel => exact ⟨k + 1, y1, by go_num, by rw [HLN.out]; omega, HR2.out, HR2'.out, HOK.out.1, HOK.out.2, HK2.out⟩
        case measure => simp [intOf]; omega
      · have HR2 := Lib.hid (show R = (t', k, (doS t' x.kind x.route).2) from by rw [HRE.out, if_neg hd])
        generalize doS t' x.kind x.route = Y at *
        obtain ⟨y1, y2⟩ := Y
        simp only at hd HR2 HDo
        have hdb : (y2 != 0) = true := by simpa using hd
        have HDN := Lib.hid hd
        clear hd
        go_wp2_with fail
        refine HDo.out.mono ?_
        rintro e w2 ⟨v2, rfl, r2, k2⟩
        have HK2 := Lib.hid (HK.out.trans k2)
        clear r2 k2 dx
        go_wp2
        go_ret3
        rw [HR2.out]
        exact ⟨HK2.out, .inr ⟨HDN.out, rfl⟩⟩
    · have HR2 := Lib.hid (show R = (t', k, 0) from by rw [hk2, List.drop_of_length_le (by rw [HLN.out]; omega)]; rfl)
      have HT := Lib.hid hk3
      have HK := Lib.hid hk
      clear hk hk2 hk3 hk4 hk5
      go_wp2
      go_ret3
      rw [HR2.out]
      exact ⟨HK.out, .inl ⟨rfl, _, rfl, HT.out⟩⟩
end Go.Proofs.YtgkgpdlakamgiaaGreat
