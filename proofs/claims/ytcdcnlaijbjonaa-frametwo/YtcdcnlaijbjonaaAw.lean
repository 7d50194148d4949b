/- Proved: the laws' first line, of answers that the document fixes, is true, and turns nothing that was there. No condition. -/
import Derived.Test.YtcdcnlaijbjonaaFj
namespace Go.Proofs.Ytcdcnlaijbjonaa
open Go.RowKit

/-- A frame put into new memory. -/
theorem put_new (w : World) (f : Fr) : (storeCells ⟨w.heap.size, 0, none⟩ (fc f).toList).run Try.prog (w.alloc (.cells (fc zeroF) 23)) = .ok () ((w.alloc (.cells (fc zeroF) 23)).setRow w.heap.size (fc f)) ∧
    FAt ((w.alloc (.cells (fc zeroF) 23)).setRow w.heap.size (fc f)) w.heap.size f ∧ Keep w ((w.alloc (.cells (fc zeroF) 23)).setRow w.heap.size (fc f)) :=
  ⟨(FAt.new w zeroF).store f, (FAt.new w zeroF).put f, ((Keep.refl w).alloc _).setRow w.heap.size (fc f) (Nat.le_refl _)⟩
def exF : Fr := ⟨1, 7, 8, 2, 3, [97, 98, 99]⟩
theorem exF_right : rightF exF := by decide
theorem exF_len : (bytesF exF).length = 22 := bytesF_len exF
theorem exF_cut : readF ((bytesF exF).drop 1) = (zeroF, 4) := by decide +kernel
theorem exF_flip : readF (K.xorN (bytesF exF) (K.big 20 1)) = (zeroF, 5) := by decide +kernel
theorem exF_none : readF [] = (zeroF, 3) := by decide
theorem zeroF_no : ¬ rightF zeroF := by decide
theorem zeroF_sq : SqF zeroF := by constructor <;> decide

set_option maxRecDepth 100000 in
set_option maxHeartbeats 4000000 in
theorem awake (w : World) : Calls Try.prog 8 #[] w fun e w' => e = .returned (.bool true) ∧ Keep w w' := by
  obtain ⟨hz, _⟩ := zero_of_info infoF
  obtain ⟨n, hn⟩ : ∃ n, n = 6 := ⟨6, rfl⟩
  have hsz : ∀ w, (Go.sizeOf 23).run Try.prog w = .ok n w := fun w => by rw [hn]; exact Try.sizeOf23 w
  have hn0 : ¬ n = 0 := by omega
  have HN := Lib.hid hn
  have HSZ := Lib.hid (fun f => (show (fc f).size = n by rw [HN.out]; rfl))
  have HB1 := Lib.hid (fun w => build_frame 1 7 8 2 3 [97, 98, 99] w)
  rw [show (⟨1, 7, 8, 2, 3, [97, 98, 99]⟩ : Fr) = exF from rfl] at HB1
  have HBZ := Lib.hid build_zero
  have HP := Lib.hid (fun w => dprint_ok exF exF_right w)
  have HR := Lib.hid (fun w => dright exF (right_sq exF_right) w)
  rw [decide_eq_true exF_right] at HR
  have hlen := exF_len
  have hd1 := fun w => dread (bytesF exF) (by rw [exF_len]; omega) w
  rw [read_bytes exF exF_right] at hd1
  have hd2 := fun w => dread ((bytesF exF).drop 1) (by rw [List.length_drop, exF_len]; omega) w
  rw [exF_cut] at hd2
  have hd3 := fun w => dread (K.xorN (bytesF exF) (K.big 20 1)) (by rw [K.xorN_len, exF_len]; omega) w
  rw [exF_flip] at hd3
  have hd4 := fun w => dread [] (by simp) w
  rw [exF_none] at hd4
  have HF := Lib.hid (flip (bytesF exF) 20 1 (by rw [exF_len]; omega) (by omega) (by omega) (by omega)).keep
  have HN0 := Lib.hid (fun w => dprint_no zeroF zeroF_sq zeroF_no w)
  have hex := ext_drop (bytesF exF) 1
  rw [hlen] at hex
  have heq : ∀ w, (Op.equalIn 10000 23 (.agg (fc exF)) (.agg (fc exF))).run Try.prog w = .ok true w := fun w => by
    have := eq_fc 9997 exF exF w
    rwa [decide_eq_true rfl] at this
  have HQ := Lib.hid heq
  have H1 := Lib.hid hd1
  have H2 := Lib.hid hd2
  have H3 := Lib.hid hd3
  have H4 := Lib.hid hd4
  have HPN := Lib.hid put_new
  clear hn hd1 hd2 hd3 hd4 heq
  obtain ⟨hst, hF, hK⟩ := HPN.out w exF
  have HF1 := Lib.hid hF
  have HK1 := Lib.hid hK
  have hl1 := hF.whole HN.out
  have hzF := HSZ.out exF
  have hzZ := HSZ.out zeroF
  clear hF hK
  go_enter Try.func8, Try.ntmps8
  generalize K.xorN (bytesF exF) (K.big 20 1) = U at *
  generalize (bytesF exF).drop 1 = V at *
  generalize bytesF exF = S at *
  go_wp2_with (first | ((with_reducible refine at_build (t := 23) [(0, .int .i64 1), (1, .int .i64 7), (2, .int .i64 8), (3, .int .i64 2), (4, .int .i64 3), (5, .string ⟨#[97, 98, 99]⟩)] ?_ (.agg (fc exF)) ?_ ?_); rfl; exact HB1.out _) | fail)
  generalize (w.alloc (.cells (fc zeroF) 23)).setRow w.heap.size (fc exF) = wA at *
  generalize w.heap.size = bA at *
  refine (HP.out _).mono ?_
  rintro e w1 ⟨rfl, k1⟩
  have HF2 := Lib.hid (HF1.out.keep k1)
  have HK2 := Lib.hid (HK1.out.trans k1)
  clear hst hl1 k1 HF1 HK1
  go_wp2_with fail
  refine (H1.out _).mono ?_
  rintro e w2 ⟨rfl, k2⟩
  obtain ⟨hst2, hB2, q2⟩ := HPN.out w2 exF
  have HB2 := Lib.hid hB2
  have HF3 := Lib.hid ((HF2.out.keep k2).keep q2)
  have HK3 := Lib.hid ((HK2.out.trans k2).trans q2)
  clear k2 hB2 q2 HF2 HK2
  go_wp2_with fail
  generalize (w2.alloc (.cells (fc zeroF) 23)).setRow w2.heap.size (fc exF) = wB at *
  generalize w2.heap.size = bB at *
  refine (H2.out _).mono ?_
  rintro e w3 ⟨rfl, k3⟩
  obtain ⟨hst3, _, q3⟩ := HPN.out w3 zeroF
  have HB3 := Lib.hid ((HB2.out.keep k3).keep q3)
  have HF4 := Lib.hid ((HF3.out.keep k3).keep q3)
  have HK4 := Lib.hid ((HK3.out.trans k3).trans q3)
  clear k3 q3 HB2 HF3 HK3 hst2
  go_wp2_with fail
  generalize (w3.alloc (.cells (fc zeroF) 23)).setRow w3.heap.size (fc zeroF) = wC at *
  generalize w3.heap.size = bC at *
  refine (HF.out _).mono ?_
  rintro e w4 ⟨rfl, k4⟩
  have HB4 := Lib.hid (HB3.out.keep k4)
  have HF5 := Lib.hid (HF4.out.keep k4)
  have HK5 := Lib.hid (HK4.out.trans k4)
  clear k4 HB3 HF4 HK4 hst3
  go_wp2_with fail
  refine (H3.out _).mono ?_
  rintro e w5 ⟨rfl, k5⟩
  obtain ⟨hst5, _, q5⟩ := HPN.out w5 zeroF
  have HB5 := Lib.hid ((HB4.out.keep k5).keep q5)
  have HF6 := Lib.hid ((HF5.out.keep k5).keep q5)
  have HK6 := Lib.hid ((HK5.out.trans k5).trans q5)
  clear k5 q5 HB4 HF5 HK5
  go_wp2_with fail
  generalize (w5.alloc (.cells (fc zeroF) 23)).setRow w5.heap.size (fc zeroF) = wD at *
  generalize w5.heap.size = bD at *
  refine (H4.out _).mono ?_
  rintro e w6 ⟨rfl, k6⟩
  obtain ⟨hst6, _, q6⟩ := HPN.out w6 zeroF
  have HB6 := Lib.hid ((HB5.out.keep k6).keep q6)
  have HF7 := Lib.hid ((HF6.out.keep k6).keep q6)
  have HK7 := Lib.hid ((HK6.out.trans k6).trans q6)
  clear k6 q6 HB5 HF6 HK6 hst5
  go_wp2_with (first | ((with_reducible refine at_build (t := 23) [] ?_ (.agg (fc zeroF)) ?_ ?_); rfl; exact HBZ.out _) | fail)
  generalize (w6.alloc (.cells (fc zeroF) 23)).setRow w6.heap.size (fc zeroF) = wE at *
  generalize w6.heap.size = bE at *
  refine (HN0.out _).mono ?_
  rintro e w7 ⟨rfl, k7⟩
  have hlB := (HB6.out.keep k7).whole HN.out
  have hlF := (HF7.out.keep k7).whole HN.out
  have HK8 := Lib.hid (HK7.out.trans k7)
  have hq := HQ.out
  clear k7 HB6 HF7 HK7 hst6
  go_wp2_with fail
  refine (HR.out _).mono ?_
  rintro e w8 ⟨rfl, k8⟩
  have HK9 := Lib.hid (HK8.out.trans k8)
  clear k8 HK8
  go_wp2
  go_ret
  exact ⟨rfl, HK9.out⟩
end Go.Proofs.Ytcdcnlaijbjonaa
