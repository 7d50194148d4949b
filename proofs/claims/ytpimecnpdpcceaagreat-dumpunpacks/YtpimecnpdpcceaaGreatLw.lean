/- Proved: what the laws of dumps have in common. No condition of our own. -/
import Derived.Test.YtpimecnpdpcceaaGreatAx
import Derived.Test.YtpimecnpdpcceaaGreatMo
namespace Go.Proofs.YtpimecnpdpcceaaGreat
open Go.RowKit

theorem cut_toS (s : List UInt8) (a : Nat) (ha : a ≤ s.length) (w : World) : (Instr.sliceAt 9 (.string ⟨s.toArray⟩) none (some (.int .i64 (a : Nat))) none).run Tryz.prog w = .ok (.string ⟨(s.take a).toArray⟩) w := by
  have hlen : (⟨s.toArray⟩ : ByteArray).size = s.length := by simp [ByteArray.size]
  have h5 := run_slice_string_h (P := Tryz.prog) w 9 ⟨s.toArray⟩ (by kernel_rfl) .i64 (a : Int) (by omega) (by rw [hlen]; omega)
  rw [Int.toNat_natCast, ext_mid, List.drop_zero, Nat.sub_zero] at h5
  exact (run_sliceAt_string (P := Tryz.prog) (w := w) 9 (.string ⟨s.toArray⟩) none (some (.int .i64 (a : Nat))) none (by kernel_rfl)).trans h5
theorem slice_no (w : World) : (Instr.buildSlice 27 0 #[]).run Tryz.prog w = .ok (.slice (some ⟨w.heap.size, 0, none⟩) 0 0) (w.alloc (.cells #[] 44)) := by kernel_rfl
theorem read_cases (s : List UInt8) (hs : s.length ≤ 1000000) (w : World) (hno : ∀ l, Dm.readD codP s ≠ .ok l) : Calls Tryz.prog 7 #[.string ⟨s.toArray⟩] w fun e w' => ∃ x : Int, e = .returned (.tuple #[.pointer none, .int .i64 x]) ∧ x ≠ 0 ∧ Keep w w' := by
  have h := dread s (by omega) w
  generalize Dm.readD codP s = r at h hno
  cases r with
  | error x => exact h.mono fun e w' ⟨a, b, c⟩ => ⟨x, a, b, c⟩
  | ok l => exact absurd rfl (hno l)
theorem newE_right {l : List Rt} (h : newE l = 0) : ∀ r ∈ l, rightR r := by
  unfold newE at h
  by_cases h1 : ∀ r ∈ l, rightR r
  · exact h1
  · rw [if_neg h1] at h
    simp at h
theorem rok_of {l l' : List Rt} (h : newE l = 0) (hp : l'.Perm l) (hq : ∀ r ∈ l, Sq r) : ∀ r ∈ l', Rok r := fun r hr => ⟨newE_right h r (hp.mem_iff.1 hr), hq r (hp.mem_iff.1 hr)⟩
theorem okD_tab {l : List Rt} (hs : Sorted l) (hr : ∀ r ∈ l, Rok r) : Dm.okD codP none (l.map rwOf) := okD_of l none hs hr (by simp)
theorem dump_pos (l : List (Dm.Rw Px)) : 0 < (Dm.dumpL codP l).length := by
  have := V.enc_pos l.length
  unfold Dm.dumpL
  rw [List.length_append]
  omega
end Go.Proofs.YtpimecnpdpcceaaGreat
