/- Proved: what the document's Unpack of layers 5 and 7 answers. Condition: the text has at most 10^8 bytes. -/
import Derived.Test.YtpimecnpdpcceaaGreatQx
import Derived.Test.YtpimecnpdpcceaaGreatQr
import Derived.Test.YtpimecnpdpcceaaGreatDi
namespace Go.Proofs.YtpimecnpdpcceaaGreat
open Go.RowKit

theorem unpackF_len (s : List UInt8) : (Lz.unpackF s 65536).1.length ≤ 65536 := by
  unfold Lz.unpackF
  have := Lz.tokens_okL (s := s)
  generalize Lz.tokensF s = c at *
  obtain ⟨T, N, x⟩ := c
  simp only at this ⊢
  by_cases hx : x ≠ 0
  · rw [if_pos hx]; simp
  · rw [if_neg hx]
    by_cases hm : 65536 < N
    · rw [if_pos hm]; simp
    · rw [if_neg hm]
      have := Lz.okL_text (this (Decidable.not_not.1 hx)).1
      simp only
      omega

set_option maxRecDepth 100000 in
set_option maxHeartbeats 400000 in
theorem qunpack5 (s : List UInt8) (hs : s.length ≤ 100000000) (w : World) : Calls Tryz.prog 43 #[.string ⟨s.toArray⟩, .int .i64 65536] w fun e w' => e = .returned (.tuple #[.string ⟨(Lz.unpackF s 65536).1.toArray⟩, .int .i64 (Lz.unpackF s 65536).2]) ∧ Keep w w' := by
  obtain ⟨R, hR⟩ : ∃ R, R = Lz.unpackF s 65536 := ⟨_, rfl⟩
  rw [← hR]
  unfold Lz.unpackF at hR
  have HT := Lib.hid (qtokens s hs w)
  have HOK := Lib.hid (fun h => Lz.tokens_okL (s := s) h)
  generalize Lz.tokensF s = c at hR HT HOK
  obtain ⟨T, N, x⟩ := c
  simp only at hR HOK
  have HR := Lib.hid hR
  clear hR
  go_enter Tryz.func43, Tryz.ntmps43
  go_wp2_with fail
  refine HT.out.mono ?_
  rintro e w1 ⟨v, rfl, hrow, k1⟩
  simp only at hrow ⊢
  have HK := Lib.hid k1
  have HRow := Lib.hid hrow
  clear hrow k1
  by_cases hx : x = 0
  · have hxb : (x != 0) = false := by simp [hx]
    obtain ⟨hok, hN⟩ := HOK.out hx
    have HJ := Lib.hid (qtext N hN v T w1 HRow.out.cells (by have := Lz.okL_sum T 0 hok; have h2 : T.length ≤ (T.map Lz.sizeT).sum := by
                                                                                          clear this hok HRow HT HOK HR
                                                                                          induction T with
                                                                                          | nil => simp
                                                                                          | cons t T ih => have := Lz.sizeT_pos t; simp; omega
                                                             omega) hok)
    have hbi : ¬ (N : Int) > 65536 := by omega
    have HRE := Lib.hid (show R = (Lz.textT T, 0) from by rw [HR.out, if_neg (by simp [hx]), if_neg (by omega)])
    obtain ⟨a, cap, rfl, _, _⟩ := HRow.out.cells.form
    clear hok HR
    go_wp2_with fail
    refine HJ.out.mono ?_
    rintro e w2 ⟨rfl, k2⟩
    have HK2 := Lib.hid (HK.out.trans k2)
    clear k2
    go_wp2
    go_ret2
    rw [HRE.out]
    exact ⟨rfl, HK2.out⟩
  · have hxb : (x != 0) = true := by simpa using hx
    have HRX := Lib.hid (show R = ([], x) from by rw [HR.out, if_pos hx])
    go_wp2
    go_ret2
    rw [HRX.out]
    exact ⟨rfl, HK.out⟩

set_option maxRecDepth 100000 in
theorem qunpack7 (s : List UInt8) (hs : s.length ≤ 100000000) (w : World) : Calls Tryz.prog 15 #[.string ⟨s.toArray⟩] w (QrPost w (unpD s)) := by
  obtain ⟨R, hR⟩ : ∃ R, R = unpD s := ⟨_, rfl⟩
  rw [← hR]
  unfold unpD at hR
  have HU := Lib.hid (qunpack5 s hs w)
  have HRd := Lib.hid (fun w => qread (Lz.unpackF s 65536).1 (by have := unpackF_len s; omega) w)
  generalize Lz.unpackF s 65536 = c at *
  obtain ⟨t, x⟩ := c
  simp only at hR HU HRd
  have HR := Lib.hid hR
  clear hR
  go_enter Tryz.func15, Tryz.ntmps15
  go_wp2_with fail
  refine HU.out.mono ?_
  rintro e w1 ⟨rfl, k1⟩
  have HK := Lib.hid k1
  clear k1
  by_cases hx : x = 0
  · have hxb : (x != 0) = false := by simp [hx]
    have hR := HR.out
    rw [if_neg (by simp [hx])] at hR
    rw [← hR] at HRd
    clear hR HR
    go_wp2_with fail
    refine (HRd.out _).mono ?_
    rcases R with y | l
    · rintro e w2 ⟨rfl, hy, k2⟩
      have HK2 := Lib.hid (HK.out.trans k2)
      clear k2
      go_wp2
      go_ret2
      exact ⟨rfl, hy, HK2.out⟩
    · rintro e w2 ⟨v, rfl, hrow, k2⟩
      have HK2 := Lib.hid (HK.out.trans k2)
      have HRow := Lib.hid hrow
      clear k2 hrow
      go_wp2
      go_ret2
      exact ⟨_, rfl, HRow.out, HK2.out⟩
  · have hxb : (x != 0) = true := by simpa using hx
    have hR := HR.out
    rw [if_pos hx] at hR
    have HRX := Lib.hid hR
    clear hR HR
    go_wp2
    go_ret2
    rw [HRX.out]
    exact ⟨rfl, hx, HK.out⟩
end Go.Proofs.YtpimecnpdpcceaaGreat
