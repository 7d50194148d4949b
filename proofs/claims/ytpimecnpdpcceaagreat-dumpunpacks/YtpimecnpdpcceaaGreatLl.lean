/- Proved: what lz's Unpack answers. Condition: the text's length fits. -/
import Derived.Test.YtpimecnpdpcceaaGreatLk
namespace Go.Proofs.YtpimecnpdpcceaaGreat
open Go.RowKit

theorem Own.conv {B : Nat} {w : World} {v : Value} {l : List UInt8} (h : Own 5 1 bl B w v l) : (convert 96 9 v).run Tryz.prog w = .ok (.string ⟨l.toArray⟩) w := by
  unfold Own at h
  rw [flat_bl] at h
  exact conv_own l h

set_option maxRecDepth 100000 in
set_option maxHeartbeats 400000 in
theorem zunpack (s : List UInt8) (hs : s.length ≤ 1000000000000) (most : Nat) (_hm : most ≤ 1000000000000) (w : World) : Calls Tryz.prog 42 #[.string ⟨s.toArray⟩, .int .i64 most] w fun e w' => e = .returned (.tuple #[.string ⟨(Lz.unpackF s most).1.toArray⟩, .int .i64 (Lz.unpackF s most).2]) ∧ Keep w w' := by
  obtain ⟨R, hR⟩ : ∃ R, R = Lz.unpackF s most := ⟨_, rfl⟩
  rw [← hR]
  unfold Lz.unpackF at hR
  have HT := Lib.hid (ztokens s hs w)
  have HOK := Lib.hid (fun h => Lz.tokens_okL (s := s) h)
  generalize Lz.tokensF s = c at hR HT HOK
  obtain ⟨T, N, x⟩ := c
  simp only at hR HOK
  have HR := Lib.hid hR
  clear hR
  go_enter Tryz.func42, Tryz.ntmps42
  go_wp2_with fail
  refine HT.out.mono ?_
  rintro e w1 ⟨v, rfl, hrow, k1⟩
  simp only at hrow ⊢
  have HK := Lib.hid k1
  have HRow := Lib.hid hrow
  clear hrow k1
  by_cases hx : x = 0
  · have hxb : (x != 0) = false := by simp [hx]
    obtain ⟨hok, hN⟩ := HOK.out hx
    have hlen := Lz.okL_text hok
    have HJ := Lib.hid (zjoin N hN v T w1 HRow.out.cells (by have := Lz.okL_sum T 0 hok; have h2 : T.length ≤ (T.map Lz.sizeT).sum := by
                                                                                          clear hlen this hok HRow HT HOK HR
                                                                                          induction T with
                                                                                          | nil => simp
                                                                                          | cons t T ih => have := Lz.sizeT_pos t; simp; omega
                                                             omega) hok)
    have HRE := Lib.hid (show R = if most < N then ([], 7) else (Lz.textT T, 0) from by rw [HR.out, if_neg (by simp [hx])])
    clear hok HR
    go_wp2_with fail
    refine HJ.out.mono ?_
    rintro e w2 ⟨u, rfl, hown, k2⟩
    have hcv := hown.conv
    obtain ⟨a, cap, rfl, _, _⟩ := (hown.row elB).cells.form
    generalize Lz.textT T = tx at *
    have HK2 := Lib.hid (HK.out.trans k2)
    have HL := Lib.hid hlen
    clear hown k2 hlen
    by_cases hb : most < N
    · have hbi : ((tx.length : Nat) : Int) > most := by rw [HL.out]; omega
      go_wp2
      go_ret2
      rw [HRE.out, if_pos hb]
      exact ⟨rfl, HK2.out⟩
    · have hbi : ¬ ((tx.length : Nat) : Int) > most := by rw [HL.out]; omega
      go_wp2
      go_ret2
      rw [HRE.out, if_neg hb]
      exact ⟨rfl, HK2.out⟩
  · have hxb : (x != 0) = true := by simpa using hx
    have HRX := Lib.hid (show R = ([], x) from by rw [HR.out, if_pos hx])
    go_wp2
    go_ret2
    rw [HRX.out]
    exact ⟨rfl, HK.out⟩
end Go.Proofs.YtpimecnpdpcceaaGreat
