/- Proved: what the document's whole of layer 7 answers. Condition: the text's length fits. -/
import Derived.Test.YtpimecnpdpcceaaGreatDp
import Derived.Test.YtpimecnpdpcceaaGreatMx
import Derived.Test.YtpimecnpdpcceaaGreatDd
import Derived.Test.YtpimecnpdpcceaaGreatMz1
import Derived.RegionTactic
import Derived.BigRegion
namespace Go.Proofs.YtpimecnpdpcceaaGreat
open Go.RowKit

theorem build_qr (s : ByteArray) (w : World) : (Instr.build 63 #[(0, .string s)]).run Tryz.prog w = .ok (.agg #[.string s, .int .i64 0]) w := by kernel_rfl
theorem qr_new (w : World) (l : List UInt8) (hl : l.length ≤ maxLen) : Rd (w.alloc (.cells #[.string ⟨l.toArray⟩, .int .i64 0] 63)) w.heap.size l 0 := ⟨by go_simp, by go_simp, by go_simp, by go_simp, hl⟩
def okW (s : List UInt8) : Bool := decide ((takeF s 0).2.1 = 0 ∧ (takeF s 0).2.2.1 = [])
theorem okW_eq (s : List UInt8) : wholeP s = if okW s then some (takeF s 0).1 else none := by
  unfold wholeP okW
  simp

set_option maxRecDepth 100000 in
set_option maxHeartbeats 1000000 in
theorem qwhole (s : List UInt8) (hs : s.length ≤ 1000000) : GivesK Tryz.prog 28 #[.string ⟨s.toArray⟩] (.tuple #[.agg (pc (takeF s 0).1), .bool (okW s)]) := by
  intro w
  obtain ⟨R, hR⟩ : ∃ R, R = okW s := ⟨_, rfl⟩
  rw [← hR]
  have HR := Lib.hid hR
  clear hR
  obtain ⟨hz, hi⟩ := zero_of_info info24b
  obtain ⟨n, hn⟩ : ∃ n, n = 18 := ⟨18, rfl⟩
  have hsz : ∀ w, (Go.sizeOf 41).run Tryz.prog w = .ok n w := fun w => by rw [hn]; exact Tryz.sizeOf41 w
  have hn0 : ¬ n = 0 := by omega
  have hpz : (pc zeroP).size = n := by rw [hn]; exact pc_size zeroP rfl
  have hpp : (pc (takeF s 0).1).size = n := by rw [hn]; exact pc_size _ (takeF_len s 0)
  have HN := Lib.hid hn
  have HBD := Lib.hid (build_qr ⟨s.toArray⟩)
  obtain ⟨hA, hS⟩ := one_at w zeroP zeroP_len
  have HA0 := Lib.hid hA
  have HK0 := Lib.hid (hS.keep.alloc (.cells #[.string ⟨s.toArray⟩, .int .i64 0] 63))
  have HA1 := Lib.hid (show At ((w.alloc (.cells (pc zeroP) 41)).alloc (.cells #[.string ⟨s.toArray⟩, .int .i64 0] 63)) w.heap.size zeroP from ⟨alloc_old hA.block _, rfl⟩)
  have HR1 := Lib.hid (show Rd ((w.alloc (.cells (pc zeroP) 41)).alloc (.cells #[.string ⟨s.toArray⟩, .int .i64 0] 63)) (w.heap.size + 1) s 0 from by
    have := qr_new (w.alloc (.cells (pc zeroP) 41)) s (by unfold maxLen; omega)
    rwa [show (w.alloc (.cells (pc zeroP) 41)).heap.size = w.heap.size + 1 by simp] at this)
  have HTL := Lib.hid (takeF_len s 0)
  have hrd := qread_at (w.heap.size + 1) s 0 _ HR1.out
  have HOk := Lib.hid (show okW s = decide ((takeF s 0).2.1 = 0 ∧ (takeF s 0).2.2.1 = []) from rfl)
  generalize takeF s 0 = q at *
  obtain ⟨p, x, s1, y⟩ := q
  simp only at HTL HOk hpp ⊢
  have HRd := Lib.hid hrd
  have hp16 : L16 p := HTL.out
  clear hA hS hn hrd
  go_enter Tryz.func28, Tryz.ntmps28
  go_wp2_with (first | (refine at_build [(0, .string ⟨s.toArray⟩)] rfl _ (HBD.out _) ?_) | fail)
  refine HRd.out.mono ?_
  rintro e w2 ⟨rfl, r2, o2⟩
  simp only at r2 ⊢
  have HK2 := Lib.hid (Only.made HK0.out o2 (by omega))
  have HA2 := Lib.hid (HA1.out.only o2 (by omega))
  obtain ⟨hB, hSB⟩ := one_at w2 zeroP zeroP_len
  have HP := Lib.hid (hB.put p hp16)
  have hst := hB.store p hp16
  have HK3 := Lib.hid (hSB.keep.setRow w2.heap.size (pc p) (Nat.le_refl _))
  have HA3 := Lib.hid (show At ((w2.alloc (.cells (pc zeroP) 41)).setRow w2.heap.size (pc p)) w.heap.size zeroP from ⟨HK3.out.obj HA2.out.block, rfl⟩)
  have HR3 := Lib.hid (r2.below HK3.out)
  have HKW := Lib.hid (HK2.out.trans HK3.out)
  have hw2 : w.heap.size < w2.heap.size := block_lt HA2.out.block
  clear r2 o2 hB hSB
  go_wp2
  generalize (w2.alloc (.cells (pc zeroP) 41)).setRow w2.heap.size (pc p) = W at *
  have f1 : (loadCellsFrom ⟨w2.heap.size, 0, none⟩ 0 n #[]).run Tryz.prog W.drew = .ok (pc p) W.drew := (show At W.drew w2.heap.size p from ⟨HP.out.block, hp16⟩).whole HN.out
  have f2 : W.cell? ⟨w.heap.size + 1, 0, none⟩ = some (.string ⟨s1.toArray⟩) := HR3.out.rest
  have hAd : At W.drew w.heap.size zeroP := ⟨HA3.out.block, rfl⟩
  have f3 := hAd.store p hp16
  have f4 : (W.drew.setRow w.heap.size (pc p)).cell? ⟨w.heap.size + 1, 0, none⟩ = some (.string ⟨s1.toArray⟩) := ((HR3.out.below (show Keep W W.drew from (Keep.refl W).drew)).row w.heap.size (pc p) (by omega)).rest
  have f5 := (hAd.put p hp16).whole HN.out
  clear hAd hst
  by_cases hx : x = 0
  · have hxb : (x == 0) = true := by simp [hx]
    by_cases h1 : s1 = []
    · have g0 : ((⟨s1.toArray⟩ : ByteArray) == ⟨#[]⟩) = true := by rw [h1]; rfl
      go_region
      all_goals
        go_wp2
        refine bodyPost_ret (v := .tuple #[.agg (pc p), .bool true]) ?_ rfl ⟨by rw [HR.out, HOk.out]; congr 3; simp [hx, h1], HKW.out.drew.setRow _ _ (Nat.le_refl _)⟩
        simp [results, Tryz.results28, go_sem, hsz, f5]
    · have g0 : ((⟨s1.toArray⟩ : ByteArray) == ⟨#[]⟩) = false := by
        rw [Bool.eq_false_iff]
        intro h
        rw [MapKept.bytes_beq] at h
        simp at h
        exact h1 h
      have g2 : s1.isEmpty = false := by cases s1 <;> simp_all
      go_region
      all_goals
        go_wp2
        refine bodyPost_ret (v := .tuple #[.agg (pc p), .bool false]) ?_ rfl ⟨by rw [HR.out, HOk.out]; congr 3; simp [h1], HKW.out.drew.setRow _ _ (Nat.le_refl _)⟩
        simp [results, Tryz.results28, go_sem, hsz, f5]
  · have hxb : (x == 0) = false := by simpa using hx
    go_region
    all_goals
      go_wp2
      refine bodyPost_ret (v := .tuple #[.agg (pc p), .bool false]) ?_ rfl ⟨by rw [HR.out, HOk.out]; congr 3; simp [hx], HKW.out.drew.setRow _ _ (Nat.le_refl _)⟩
      simp [results, Tryz.results28, go_sem, hsz, f5]
end Go.Proofs.YtpimecnpdpcceaaGreat
