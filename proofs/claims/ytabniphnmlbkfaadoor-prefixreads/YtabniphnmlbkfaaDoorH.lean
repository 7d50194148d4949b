/- Proved: what Read of prefix answers, and what becomes of memory. Condition: the reader's two cells are known (Rd). -/
import Derived.Test.YtabniphnmlbkfaaDoorF
namespace Go.Proofs.YtabniphnmlbkfaaDoor
open Go.RowKit

def readF (l : List UInt8) (x : Int) : Px × Int × List UInt8 × Int :=
  if (takeF l x).2.1 = 0 ∨ (takeF l x).2.2.2 ≠ 0 then takeF l x else ((takeF l x).1, (takeF l x).2.1, l, x)
theorem takeF_len (l : List UInt8) (x : Int) : (takeF l x).1.addr.length = 16 := by
  unfold takeF tailF
  split
  · split
    · split
      · exact padL_len _
      · rfl
    · rfl
  · rfl

theorem new_rd (w : World) (l : List UInt8) (x : Int) (hl : l.length ≤ maxLen) : Rd (w.alloc (.cells #[.string ⟨l.toArray⟩, .int .i64 x] 63)) w.heap.size l x := ⟨by go_simp, by go_simp, by go_simp, by go_simp, hl⟩

set_option maxRecDepth 100000 in
set_option maxHeartbeats 1000000 in
theorem read_at (b : Nat) (l : List UInt8) (x : Int) (w : World) (h : Rd w b l x) : Calls Tryd.prog 24 #[.pointer (some ⟨b, 0, none⟩)] w (TakePost b w (readF l x)) := by
  obtain ⟨hz, hi⟩ := zero_of_info info24
  have hbw : b < w.heap.size := h.lt
  have hpl := takeF_len l x
  have HF := Lib.hid (show readF l x = if (takeF l x).2.1 = 0 ∨ (takeF l x).2.2.2 ≠ 0 then takeF l x else ((takeF l x).1, (takeF l x).2.1, l, x) from rfl)
  have HT := Lib.hid (fun g w h => take_at g l x w h)
  generalize readF l x = F at *
  generalize takeF l x = q at *
  obtain ⟨q1, q2, q3, q4⟩ := q
  simp only at hpl HF
  obtain ⟨n2, hn2⟩ : ∃ n, n = 18 := ⟨18, rfl⟩
  have hsz2 : ∀ w, (Go.sizeOf 24).run Tryd.prog w = .ok n2 w := fun w => by rw [hn2]; exact Tryd.sizeOf24 w
  obtain ⟨hA, hS⟩ := one_at w zeroP zeroP_len
  have h0 := (h.same hS).rest
  have h1 := (h.same hS).err
  have HA := Lib.hid hA
  have HS := Lib.hid hS
  have HN2 := Lib.hid hn2
  have HH := Lib.hid h
  clear hA hS hn2 hi h
  go_enter Tryd.func24, Tryd.ntmps24
  go_wp2_with fail
  have hs1 : (w.alloc (.cells (pc zeroP) 24)).heap.size = w.heap.size + 1 := by simp
  have hrd := (show Rd ((w.alloc (.cells (pc zeroP) 24)).alloc (.cells #[.string ⟨l.toArray⟩, .int .i64 x] 63)) (w.heap.size + 1) l x by rw [← hs1]; exact new_rd _ l x HH.out.len)
  refine (HT.out _ _ hrd).mono ?_
  rintro e w3 ⟨rfl, hr3, ho3⟩
  have hs2 : ((w.alloc (.cells (pc zeroP) 24)).alloc (.cells #[.string ⟨l.toArray⟩, .int .i64 x] 63)).heap.size = w.heap.size + 2 := by simp
  have hs3 := ho3.size
  have HS2 := Lib.hid (HS.out.alloc (.cells #[.string ⟨l.toArray⟩, .int .i64 x] 63))
  have HB3 := Lib.hid ((HH.out.same HS2.out).other ho3 (by omega) (by omega))
  have HA3 := Lib.hid ((HA.out.mono ((Same.refl _).alloc (.cells #[.string ⟨l.toArray⟩, .int .i64 x] 63))).only ho3 (by omega))
  have HO3 := Lib.hid (show Only b w w3 from ⟨by rw [ho3.os]; exact HS2.out.os, by rw [ho3.tape]; exact HS2.out.tape, by rw [ho3.output]; exact HS2.out.output, by omega, fun i hi _ => by rw [ho3.block i (by omega) (by omega)]; exact HS2.out.block i hi⟩)
  have hA4 : At (w3.alloc (.cells (pc zeroP) 24)) w3.heap.size zeroP := (one_at w3 zeroP rfl).1
  have z4 : (pc q1).size = n2 := by rw [HN2.out]; exact pc_size _ hpl
  have hst := hA4.store q1 hpl
  have HP := Lib.hid (hA4.put q1 hpl)
  have HR := Lib.hid (((HA3.out.mono ((Same.refl w3).alloc (.cells (pc zeroP) 24))).row w3.heap.size (pc q1)) (by omega))
  have HB := Lib.hid (((HB3.out.same ((Same.refl w3).alloc (.cells (pc zeroP) 24))).row w3.heap.size (pc q1)) (by omega))
  have HG := Lib.hid (((hr3.same ((Same.refl w3).alloc (.cells (pc zeroP) 24))).row w3.heap.size (pc q1)) (by omega))
  have HO := Lib.hid ((HO3.out.allocNew (.cells (pc zeroP) 24)).rowNew w3.heap.size (pc q1) (by omega))
  have hge : w.heap.size + 2 ≤ w3.heap.size := by omega
  clear hr3 ho3 HA HS HS2 hA4 HB3 HA3 HO3 hrd hs3 hs2 hs1 HT h0 h1
  obtain ⟨w4, hw4⟩ : ∃ w4, (w3.alloc (.cells (pc zeroP) 24)).setRow w3.heap.size (pc q1) = w4 := ⟨_, rfl⟩
  rw [hw4] at hst HP HR HB HG HO
  clear hw4
  by_cases h2 : q2 = 0
  · subst h2
    have HF2 := Lib.hid (HF.out.trans (if_pos (Or.inl rfl)))
    have g0 := HG.out.rest
    have g1 := HG.out.err
    have b0 := HB.out.rest
    have b1 := HB.out.err
    have f0 := HB.out.free0
    have f1 := HB.out.free1
    have HR5 := Lib.hid ((HR.out.setOther b 0 (.string ⟨q3.toArray⟩) (by omega)).setOther b 1 (.int .i64 q4) (by omega))
    have HP5 := Lib.hid ((HP.out.setOther b 0 (.string ⟨q3.toArray⟩) (by omega)).setOther b 1 (.int .i64 q4) (by omega))
    have HB5 := Lib.hid ((HB.out.setRest q3 HG.out.len).setErr q4)
    have HO5 := Lib.hid ((HO.out.trans (Only.setCell b 0 w4 (.string ⟨q3.toArray⟩))).trans (Only.setCell b 1 _ (.int .i64 q4)))
    have hwp := HP5.out.whole HN2.out
    have hst5 := HR5.out.store q1 hpl
    have hld := (HR5.out.put q1 hpl).whole HN2.out
    go_wp2
    refine bodyPost_ret (v := .tuple #[.agg (pc q1), .int .i64 0]) ?_ rfl ?_
    · simp [results, Tryd.results24, go_sem, hsz2, hld]
    · rw [HF2.out]
      exact ⟨rfl, HB5.out.row _ _ (by omega), HO5.out.rowNew _ _ (by omega)⟩
  · by_cases h4 : q4 = 0
    · have HF2 := Lib.hid (HF.out.trans (if_neg (by simp [h2, h4])))
      have Her := Lib.hid (err_rd (w.heap.size + 1) q3 q4 w4 HG.out)
      have hwp := HP.out.whole HN2.out
      have hst5 := HR.out.store q1 hpl
      have hld := (HR.out.put q1 hpl).whole HN2.out
      subst h4
      go_wp2_with fail
      refine Her.out.mono ?_
      rintro e w7 ⟨rfl, rfl⟩
      go_wp2
      refine bodyPost_ret (v := .tuple #[.agg (pc q1), .int .i64 q2]) ?_ rfl ?_
      · simp [results, Tryd.results24, go_sem, hsz2, hld]
      · rw [HF2.out]
        exact ⟨rfl, HB.out.row _ _ (by omega), HO.out.rowNew _ _ (by omega)⟩
    · have HF2 := Lib.hid (HF.out.trans (if_pos (Or.inr h4)))
      have hb2 : (q2 == 0) = false := by simpa using h2
      have hb4 : (q4 != 0) = true := by simpa using h4
      have Her := Lib.hid (err_rd (w.heap.size + 1) q3 q4 w4 HG.out)
      have g0 := HG.out.rest
      have g1 := HG.out.err
      have b0 := HB.out.rest
      have b1 := HB.out.err
      have f0 := HB.out.free0
      have f1 := HB.out.free1
      have HR5 := Lib.hid ((HR.out.setOther b 0 (.string ⟨q3.toArray⟩) (by omega)).setOther b 1 (.int .i64 q4) (by omega))
      have HP5 := Lib.hid ((HP.out.setOther b 0 (.string ⟨q3.toArray⟩) (by omega)).setOther b 1 (.int .i64 q4) (by omega))
      have HB5 := Lib.hid ((HB.out.setRest q3 HG.out.len).setErr q4)
      have HO5 := Lib.hid ((HO.out.trans (Only.setCell b 0 w4 (.string ⟨q3.toArray⟩))).trans (Only.setCell b 1 _ (.int .i64 q4)))
      have hwp := HP5.out.whole HN2.out
      have hst5 := HR5.out.store q1 hpl
      have hld := (HR5.out.put q1 hpl).whole HN2.out
      go_wp2_with fail
      refine Her.out.mono ?_
      rintro e w7 ⟨rfl, rfl⟩
      go_wp2
      refine bodyPost_ret (v := .tuple #[.agg (pc q1), .int .i64 q2]) ?_ rfl ?_
      · simp [results, Tryd.results24, go_sem, hsz2, hld]
      · rw [HF2.out]
        exact ⟨rfl, HB5.out.row _ _ (by omega), HO5.out.rowNew _ _ (by omega)⟩
end Go.Proofs.YtabniphnmlbkfaaDoor
