/- Proved: the laws' first line, of answers that the document fixes, is true, and turns nothing that was there. Condition: the library's table is as its text lays it. -/
import Derived.Test.YtifcibmpeolmdaaDoorZa
namespace Go.Proofs.YtifcibmpeolmdaaDoor
open Go.RowKit

/-! ### The receivers of the first line -/
def f1 : Fr := dF 2 [99]
def f2 : Fr := dF 0 [97]
def f3 : Fr := dF 0 [120]
def f4 : Fr := dF 1 [98]
def f5 : Fr := dF 1 [66]
def q0 : Rv := newR 7 8 3
def q1 : Rv := q0.take f1
def q2 : Rv := q1.take f2
def q3 : Rv := q2.take f3
def q4 : Rv := q3.take f4
def q5 : Rv := q3.core.take f5
theorem may0 : mayR 7 8 (3 : Nat) := by decide
theorem good0 : Good q0 := Good.new may0
theorem good3 : Good q3 := ((good0.take f1).take f2).take f3
theorem wr1 : q0.wrong f1 = 0 := by decide
theorem wr2 : q1.wrong f2 = 0 := by decide
theorem wr3 : q2.wrong f3 = 9 := by decide
theorem wr4 : q3.wrong f4 = 0 := by decide
theorem wr5 : q3.core.wrong f5 = 0 := by decide
theorem ack3 : q3.ack = ⟨2, 7, 8, 1, 3, [1, 0]⟩ := by decide
theorem data3 : q3.data = [] ∧ q3.dataE = 11 := by decide
theorem data4 : q4.data = [97, 98, 99] ∧ q4.dataE = 0 := by decide
theorem data5 : q5.data = [97, 66, 99] ∧ q5.dataE = 0 := by decide
theorem full4 : decide q4.full = true := by decide
theorem drop4 : q4.d 9 = 1 ∧ q5.d 9 = 0 := by decide
theorem one_no : (resumeF [1]).2 = 3 := by decide
theorem dr0 : q0.d (q0.wrong f1 : Nat) < 9223372036854775807 := by decide
theorem dr1 : q1.d (q1.wrong f2 : Nat) < 9223372036854775807 := by decide
theorem dr2 : q2.d (q2.wrong f3 : Nat) < 9223372036854775807 := by decide
theorem dr3 : q3.d (q3.wrong f4 : Nat) < 9223372036854775807 := by decide
theorem dr4 : q3.core.d (q3.core.wrong f5 : Nat) < 9223372036854775807 := by decide

theorem sqd (i : Int) (s : List UInt8) (hi : 0 ≤ i ∧ i ≤ 1000) (hs : s.length ≤ 1000000) : SqF (dF i s) := sq_of (by show 0 ≤ (7 : Int) ∧ (7 : Int) ≤ 1000; omega) (by show 0 ≤ (8 : Int) ∧ (8 : Int) ≤ 1000; omega) hi (by show 0 ≤ (3 : Int) ∧ (3 : Int) ≤ 1000; omega) hs
set_option maxRecDepth 100000 in
set_option maxHeartbeats 4000000 in
theorem awake_at (w : World) (ht : Tab w) : Calls Tryd.prog 10 #[] w fun e w' => e = .returned (.bool true) ∧ Keep w w' := by
  have HTab := Lib.hid ht
  have HN1 := Lib.hid (znew 7 8 3 may0 w ht)
  have HN2 := Lib.hid (fun w1 => vnew_no 7 8 0 (by unfold isI; omega) (by unfold isI; omega) (by unfold mayR; omega) w1)
  have HD1 := Lib.hid (data_at 2 [99])
  have HD2 := Lib.hid (data_at 0 [97])
  have HD3 := Lib.hid (data_at 0 [120])
  have HD4 := Lib.hid (data_at 1 [98])
  have HD5 := Lib.hid (data_at 1 [66])
  have HT1 : Hid (∀ v K b, Z v K b q0 → Calls Tryd.prog 14 #[.pointer (some ⟨b, 0, none⟩), .agg (fc (dF 2 [99]))] v fun e w' => e = .returned (.int .i64 0) ∧ ∃ K', Z w' K' b q1 ∧ Turn K v w' ∧ More v K K') := Lib.hid (fun v K b h => by have := ztake f1 (sqd _ _ (by omega) (by simp)) h dr0; rw [wr1] at this; exact this)
  have HT2 : Hid (∀ v K b, Z v K b q1 → Calls Tryd.prog 14 #[.pointer (some ⟨b, 0, none⟩), .agg (fc (dF 0 [97]))] v fun e w' => e = .returned (.int .i64 0) ∧ ∃ K', Z w' K' b q2 ∧ Turn K v w' ∧ More v K K') := Lib.hid (fun v K b h => by have := ztake f2 (sqd _ _ (by omega) (by simp)) h dr1; rw [wr2] at this; exact this)
  have HT3 : Hid (∀ v K b, Z v K b q2 → Calls Tryd.prog 14 #[.pointer (some ⟨b, 0, none⟩), .agg (fc (dF 0 [120]))] v fun e w' => e = .returned (.int .i64 9) ∧ ∃ K', Z w' K' b q3 ∧ Turn K v w' ∧ More v K K') := Lib.hid (fun v K b h => by have := ztake f3 (sqd _ _ (by omega) (by simp)) h dr2; rw [wr3] at this; exact this)
  have HT4 : Hid (∀ v K b, Z v K b q3 → Calls Tryd.prog 14 #[.pointer (some ⟨b, 0, none⟩), .agg (fc (dF 1 [98]))] v fun e w' => e = .returned (.int .i64 0) ∧ ∃ K', Z w' K' b q4 ∧ Turn K v w' ∧ More v K K') := Lib.hid (fun v K b h => by have := ztake f4 (sqd _ _ (by omega) (by simp)) h dr3; rw [wr4] at this; exact this)
  have HT5 : Hid (∀ v K b, Z v K b q3.core → Calls Tryd.prog 14 #[.pointer (some ⟨b, 0, none⟩), .agg (fc (dF 1 [66]))] v fun e w' => e = .returned (.int .i64 0) ∧ ∃ K', Z w' K' b q5 ∧ Turn K v w' ∧ More v K K') := Lib.hid (fun v K b h => by have := ztake f5 (sqd _ _ (by omega) (by simp)) h dr4; rw [wr5] at this; exact this)
  have HA : Hid (∀ v K b, Z v K b q3 → Calls Tryd.prog 16 #[.pointer (some ⟨b, 0, none⟩)] v fun e w' => e = .returned (.agg (fc q3.ack)) ∧ Keep v w') := Lib.hid (fun v K b h => zack h)
  have HC : Hid (∀ v K b, Z v K b q3 → Calls Tryd.prog 23 #[.pointer (some ⟨b, 0, none⟩)] v fun e w' => e = .returned (.string ⟨q3.cursor.toArray⟩) ∧ Keep v w') := Lib.hid (fun v K b h => zcursor h)
  have HR := Lib.hid (fun v (ht : Tab v) => zagain good3 v ht)
  have HX3 : Hid (∀ v K b, Z v K b q3 → Calls Tryd.prog 21 #[.pointer (some ⟨b, 0, none⟩)] v fun e w' => e = .returned (.tuple #[.string ⟨#[]⟩, .int .i64 11]) ∧ Keep v w') := Lib.hid (fun v K b h => by have := zdata h; rw [data3.1, data3.2] at this; exact this)
  have HX4 : Hid (∀ v K b, Z v K b q4 → Calls Tryd.prog 21 #[.pointer (some ⟨b, 0, none⟩)] v fun e w' => e = .returned (.tuple #[.string ⟨#[97, 98, 99]⟩, .int .i64 0]) ∧ Keep v w') := Lib.hid (fun v K b h => by have := zdata h; rw [data4.1, data4.2] at this; exact this)
  have HX5 : Hid (∀ v K b, Z v K b q5 → Calls Tryd.prog 21 #[.pointer (some ⟨b, 0, none⟩)] v fun e w' => e = .returned (.tuple #[.string ⟨#[97, 66, 99]⟩, .int .i64 0]) ∧ Keep v w') := Lib.hid (fun v K b h => by have := zdata h; rw [data5.1, data5.2] at this; exact this)
  have HRB : Hid (∀ v, Tab v → Calls Tryd.prog 28 #[.string ⟨#[1]⟩] v fun e w' => e = .returned (.tuple #[.pointer none, .int .i64 3]) ∧ Keep v w') := Lib.hid (fun v ht => (zresume [1] v (by decide) ht).mono fun e w' ⟨k, h⟩ => by
    rcases h with ⟨h0, _⟩ | ⟨_, h1⟩
    · rw [one_no] at h0; cases h0
    · rw [one_no] at h1; exact ⟨h1, k⟩)
  have HDn : Hid (∀ v K b, Z v K b q4 → Calls Tryd.prog 18 #[.pointer (some ⟨b, 0, none⟩)] v fun e w' => e = .returned (.bool true) ∧ Keep v w') := Lib.hid (fun v K b h => by have := zdone h; rw [full4] at this; exact this)
  have HP4 : Hid (∀ v K b, Z v K b q4 → Calls Tryd.prog 20 #[.pointer (some ⟨b, 0, none⟩), .int .i64 9] v fun e w' => e = .returned (.int .i64 1) ∧ w' = v) := Lib.hid (fun v K b h => by have := zdrops 9 h; rw [drop4.1] at this; exact this)
  have HP5 : Hid (∀ v K b, Z v K b q5 → Calls Tryd.prog 20 #[.pointer (some ⟨b, 0, none⟩), .int .i64 9] v fun e w' => e = .returned (.int .i64 0) ∧ w' = v) := Lib.hid (fun v K b h => by have := zdrops 9 h; rw [drop4.2] at this; exact this)
  obtain ⟨hz, _⟩ := zero_of_info infoF
  obtain ⟨n, hn⟩ : ∃ n, n = 6 := ⟨6, rfl⟩
  have hsz : ∀ w, (Go.sizeOf 32).run Tryd.prog w = .ok n w := fun w => by rw [hn]; exact Tryd.sizeOf32 w
  have hn0 : ¬ n = 0 := by omega
  have hzs : (fc q3.ack).size = n := by rw [hn]; rfl
  have HSt := Lib.hid (fun v => And.intro ((FAt.new v zeroF).store q3.ack) (And.intro ((FAt.new v zeroF).put q3.ack) (((Keep.refl v).alloc (.cells (fc zeroF) 32)).setRow v.heap.size (fc q3.ack) (Nat.le_refl _))))
  have HCl : Hid (∀ v k, FAt v k q3.ack → v.cell? ⟨k, 3, none⟩ = some (.int .i64 1) ∧ v.cell? ⟨k, 5, none⟩ = some (.string ⟨#[1, 0]⟩) ∧ v.cell? ⟨k, 4, none⟩ = some (.int .i64 3)) := Lib.hid (fun v k h => by rw [ack3] at h; exact ⟨h.idx, h.data, h.tot⟩)
  clear ht hn
  generalize fc q3.ack = CA at *
  generalize fc zeroF = ZF at *
  generalize q3.cursor = CU at *
  go_enter Tryd.func10, Tryd.ntmps10
  go_wp2_with fail
  refine HN1.out.mono ?_
  rintro e w1 ⟨b, K, rfl, hZ, hF, hK⟩
  have HZ := Lib.hid hZ
  have HF := Lib.hid hF
  have HK := Lib.hid hK
  have HTb := Lib.hid (HTab.out.keep hK)
  clear hZ hF hK HN1
  go_wp2_with fail
  refine (HN2.out w1).mono ?_
  rintro e w2 ⟨rfl, k2⟩
  have HZ2 := Lib.hid (HZ.out.keep k2)
  have HK2 := Lib.hid (HK.out.trans k2)
  clear k2 HZ HK HN2
  go_wp2_with fail
  refine (HD1.out w2).mono ?_
  rintro e w3a ⟨rfl, q1⟩
  have HZ3a := Lib.hid (HZ2.out.keep q1)
  have HK3a := Lib.hid (HK2.out.trans q1)
  clear q1 HZ2 HK2 HD1
  go_wp2_with fail
  refine (HT1.out w3a _ _ HZ3a.out).mono ?_
  rintro e w3 ⟨rfl, K1, hz1, ht1, hm1⟩
  have HZ3 := Lib.hid hz1
  have HF3 := Lib.hid (HF.out.more hm1 HK3a.out.size)
  have HK3 := Lib.hid (Turn.from HK3a.out ht1 HF.out)
  clear hz1 ht1 hm1 HZ3a HK3a HF HT1
  go_wp2_with fail
  refine (HD2.out w3).mono ?_
  rintro e w4a ⟨rfl, q2⟩
  have HZ4a := Lib.hid (HZ3.out.keep q2)
  have HK4a := Lib.hid (HK3.out.trans q2)
  clear q2 HZ3 HK3 HD2
  go_wp2_with fail
  refine (HT2.out w4a _ _ HZ4a.out).mono ?_
  rintro e w4 ⟨rfl, K2, hz2, ht2, hm2⟩
  have HZ4 := Lib.hid hz2
  have HF4 := Lib.hid (HF3.out.more hm2 HK4a.out.size)
  have HK4 := Lib.hid (Turn.from HK4a.out ht2 HF3.out)
  clear hz2 ht2 hm2 HZ4a HK4a HF3 HT2
  go_wp2_with fail
  refine (HD3.out w4).mono ?_
  rintro e w5a ⟨rfl, q3⟩
  have HZ5a := Lib.hid (HZ4.out.keep q3)
  have HK5a := Lib.hid (HK4.out.trans q3)
  clear q3 HZ4 HK4 HD3
  go_wp2_with fail
  refine (HT3.out w5a _ _ HZ5a.out).mono ?_
  rintro e w5 ⟨rfl, K3, hz3, ht3, hm3⟩
  have HZ5 := Lib.hid hz3
  have HF5 := Lib.hid (HF4.out.more hm3 HK5a.out.size)
  have HK5 := Lib.hid (Turn.from HK5a.out ht3 HF4.out)
  clear hz3 ht3 hm3 HZ5a HK5a HF4 HT3
  go_wp2_with fail
  refine (HA.out w5 _ _ HZ5.out).mono ?_
  rintro e w6 ⟨rfl, q6⟩
  have HZ6 := Lib.hid (HZ5.out.keep q6)
  have HK6 := Lib.hid (HK5.out.trans q6)
  obtain ⟨hst, hpt, hkp⟩ := HSt.out w6
  have HFa := Lib.hid hpt
  have HZ7 := Lib.hid (HZ6.out.keep hkp)
  have HK7 := Lib.hid (HK6.out.trans hkp)
  have HLw := Lib.hid HZ6.out.low
  clear hpt hkp q6 HZ5 HK5 HA HSt
  go_wp2_with fail
  generalize hw7 : (w6.alloc (.cells ZF 32)).setRow w6.heap.size CA = w7 at *
  generalize hkb : w6.heap.size = kb at *
  clear hst hw7 HZ6 HK6
  refine (HC.out w7 _ _ HZ7.out).mono ?_
  rintro e w8 ⟨rfl, q8⟩
  have HZ8 := Lib.hid (HZ7.out.keep q8)
  have HK8 := Lib.hid (HK7.out.trans q8)
  have HFa8 := Lib.hid (HFa.out.keep q8)
  clear q8 HZ7 HK7 HFa HC
  go_wp2_with fail
  refine (HR.out w8 (HTab.out.keep HK8.out)).mono ?_
  rintro e w9 ⟨b2, L, rfl, hY, hFY, q9⟩
  have HY9 := Lib.hid hY
  have HFL := Lib.hid hFY
  have HZ9 := Lib.hid (HZ8.out.keep q9)
  have HK9 := Lib.hid (HK8.out.trans q9)
  have HFa9 := Lib.hid (HFa8.out.keep q9)
  have HAp := Lib.hid (Apart.from HZ8.out.low hFY)
  have HFL0 := Lib.hid (hFY.mono HK8.out.size)
  have HKB := Lib.hid (show kb < w9.heap.size ∧ kb ∉ L from ⟨block_lt HFa9.out, fun q => by have h1 := hFY kb q; have h2 := block_lt HFa8.out; omega⟩)
  clear hY hFY q9 HZ8 HK8 HFa8 HR HFL
  go_wp2_with fail
  refine (HX3.out w9 _ _ HZ9.out).mono ?_
  rintro e w10 ⟨rfl, q10⟩
  have HZ10 := Lib.hid (HZ9.out.keep q10)
  have HY10 := Lib.hid (HY9.out.keep q10)
  have HK10 := Lib.hid (HK9.out.trans q10)
  have HFa10 := Lib.hid (HFa9.out.keep q10)
  have HKB10 := Lib.hid (show kb < w10.heap.size from block_lt HFa10.out)
  clear q10 HZ9 HY9 HK9 HFa9 HX3
  go_wp2_with fail
  refine (HD4.out w10).mono ?_
  rintro e w11 ⟨rfl, q11⟩
  have HZ11 := Lib.hid (HZ10.out.keep q11)
  have HY11 := Lib.hid (HY10.out.keep q11)
  have HK11 := Lib.hid (HK10.out.trans q11)
  have HFa11 := Lib.hid (HFa10.out.keep q11)
  clear q11 HZ10 HY10 HK10 HFa10 HD4 HKB10
  go_wp2_with fail
  refine (HT4.out w11 _ _ HZ11.out).mono ?_
  rintro e w12 ⟨rfl, K12, hz12, ht12, hm12⟩
  have HZ12 := Lib.hid hz12
  have HY12 := Lib.hid (HY11.out.turn ht12 HZ11.out.zero HAp.out.symm)
  have HAp12 := Lib.hid (HAp.out.more hm12 HY11.out.low)
  have HF12 := Lib.hid (HF5.out.more hm12 HK11.out.size)
  have HK12 := Lib.hid (Turn.from HK11.out ht12 HF5.out)
  have HFa12 := Lib.hid (show FAt w12 kb q3.ack from ht12.obj HFa11.out (fun q => by have := HLw.out kb q; omega))
  clear hz12 ht12 hm12 HZ11 HY11 HK11 HFa11 HF5 HAp HLw HT4
  go_wp2_with fail
  refine (HX4.out w12 _ _ HZ12.out).mono ?_
  rintro e w13 ⟨rfl, q13⟩
  have HZ13 := Lib.hid (HZ12.out.keep q13)
  have HY13 := Lib.hid (HY12.out.keep q13)
  have HK13 := Lib.hid (HK12.out.trans q13)
  have HFa13 := Lib.hid (HFa12.out.keep q13)
  clear q13 HZ12 HY12 HK12 HFa12 HX4
  go_wp2_with fail
  refine (HD5.out w13).mono ?_
  rintro e w14 ⟨rfl, q14⟩
  have HZ14 := Lib.hid (HZ13.out.keep q14)
  have HY14 := Lib.hid (HY13.out.keep q14)
  have HK14 := Lib.hid (HK13.out.trans q14)
  have HFa14 := Lib.hid (HFa13.out.keep q14)
  clear q14 HZ13 HY13 HK13 HFa13 HD5
  go_wp2_with fail
  refine (HT5.out w14 _ _ HY14.out).mono ?_
  rintro e w15 ⟨rfl, L15, hy15, ht15, hm15⟩
  have HY15 := Lib.hid hy15
  have HZ15 := Lib.hid (HZ14.out.turn ht15 HY14.out.zero HAp12.out)
  have HK15 := Lib.hid (Turn.from HK14.out ht15 HFL0.out)
  have HFa15 := Lib.hid (show FAt w15 kb q3.ack from ht15.obj HFa14.out HKB.out.2)
  clear hy15 ht15 hm15 HZ14 HY14 HK14 HFa14 HAp12 HT5 HF12
  go_wp2_with fail
  refine (HX5.out w15 _ _ HY15.out).mono ?_
  rintro e w16 ⟨rfl, q16⟩
  have HZ16 := Lib.hid (HZ15.out.keep q16)
  have HY16 := Lib.hid (HY15.out.keep q16)
  have HK16 := Lib.hid (HK15.out.trans q16)
  have HFa16 := Lib.hid (HFa15.out.keep q16)
  clear q16 HZ15 HY15 HK15 HFa15 HX5
  go_wp2_with fail
  refine (HRB.out w16 (HTab.out.keep HK16.out)).mono ?_
  rintro e w17 ⟨rfl, q17⟩
  have HZ17 := Lib.hid (HZ16.out.keep q17)
  have HY17 := Lib.hid (HY16.out.keep q17)
  have HK17 := Lib.hid (HK16.out.trans q17)
  obtain ⟨c3, c5, c4⟩ := HCl.out w17 kb (HFa16.out.keep q17)
  clear q17 HZ16 HY16 HK16 HFa16 HRB HCl HFL0 HKB
  go_wp2_with fail
  refine (HDn.out w17 _ _ HZ17.out).mono ?_
  rintro e w18 ⟨rfl, q18⟩
  have HZ18 := Lib.hid (HZ17.out.keep q18)
  have HY18 := Lib.hid (HY17.out.keep q18)
  have HK18 := Lib.hid (HK17.out.trans q18)
  clear q18 HZ17 HY17 HK17 c3 c4 c5
  go_wp2_with fail
  refine (HP4.out w18 _ _ HZ18.out).mono ?_
  rintro e w18 ⟨rfl, rfl⟩
  go_wp2_with fail
  refine (HP5.out w18 _ _ HY18.out).mono ?_
  rintro e w18 ⟨rfl, rfl⟩
  go_wp2
  go_ret
  exact ⟨rfl, HK18.out⟩
end Go.Proofs.YtifcibmpeolmdaaDoor
