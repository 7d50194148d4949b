/- Proved: what the document's Print and Read of a frame answer. Condition: the frame may be; the text is short enough for memory. -/
import Derived.Test.YtcdcnlaijbjonaaFg
import Derived.Test.YtcdcnlaijbjonaaFf
namespace Go.Proofs.Ytcdcnlaijbjonaa
open Go.RowKit

set_option maxRecDepth 100000 in
set_option maxHeartbeats 1000000 in
theorem qprint (f : Fr) (hr : rightF f) (w : World) : Calls Try.prog 13 #[.agg (fc f)] w fun e w' => e = .returned (.string ⟨(bytesF f).toArray⟩) ∧ Keep w w' := by
  obtain ⟨kd, s1, s2, s3, s4, d⟩ := f
  obtain ⟨h1, h2, h3, h4, h5, h6⟩ := hr
  simp only at h1 h2 h3 h4 h5 h6
  obtain ⟨kd, rfl⟩ := Int.eq_ofNat_of_zero_le (show 0 ≤ kd by omega)
  obtain ⟨s1, rfl⟩ := Int.eq_ofNat_of_zero_le h2.1
  obtain ⟨s2, rfl⟩ := Int.eq_ofNat_of_zero_le h3.1
  obtain ⟨s3, rfl⟩ := Int.eq_ofNat_of_zero_le h4.1
  obtain ⟨s4, rfl⟩ := Int.eq_ofNat_of_zero_le h5.1
  have hA := FAt.new w ⟨kd, s1, s2, s3, s4, d⟩
  have hK : Keep w (w.alloc (.cells (fc ⟨kd, s1, s2, s3, s4, d⟩) 23)) := (Keep.refl w).alloc _
  generalize hW : w.alloc (.cells (fc ⟨kd, s1, s2, s3, s4, d⟩) 23) = W at *
  have c0 : ∀ u : KW W, u.1.cell? ⟨w.heap.size, 0, none⟩ = some (.int .i64 kd) := fun u => (hA.keep u.2).kind
  have c1 : ∀ u : KW W, u.1.cell? ⟨w.heap.size, 1, none⟩ = some (.int .i64 s1) := fun u => (hA.keep u.2).ses
  have c2 : ∀ u : KW W, u.1.cell? ⟨w.heap.size, 2, none⟩ = some (.int .i64 s2) := fun u => (hA.keep u.2).ep
  have c3 : ∀ u : KW W, u.1.cell? ⟨w.heap.size, 3, none⟩ = some (.int .i64 s3) := fun u => (hA.keep u.2).idx
  have c4 : ∀ u : KW W, u.1.cell? ⟨w.heap.size, 4, none⟩ = some (.int .i64 s4) := fun u => (hA.keep u.2).tot
  have c5 : ∀ u : KW W, u.1.cell? ⟨w.heap.size, 5, none⟩ = some (.string ⟨d.toArray⟩) := fun u => (hA.keep u.2).data
  have N1 := Lib.hid (qnumber kd 1 (by omega) (by omega))
  have N2 := Lib.hid (qnumber s1 4 (by omega) (by omega))
  have N3 := Lib.hid (qnumber s2 4 (by omega) (by omega))
  have N4 := Lib.hid (qnumber s3 2 (by omega) (by omega))
  have N5 := Lib.hid (qnumber s4 2 (by omega) (by omega))
  have N6 := Lib.hid (qnumber d.length 2 (by omega) (by omega))
  have L1 := be_len kd 1
  have L2 := be_len s1 4
  have L3 := be_len s2 4
  have L4 := be_len s3 2
  have L5 := be_len s4 2
  have L6 := be_len d.length 2
  have HB := Lib.hid (show bytesF ⟨kd, s1, s2, s3, s4, d⟩ = K.sealB ((((((be 1 kd ++ be 4 s1) ++ be 4 s2) ++ be 2 s3) ++ be 2 s4) ++ be 2 d.length) ++ d) from by
    show K.sealB (headF ⟨kd, s1, s2, s3, s4, d⟩ ++ d) = _
    rw [show headF ⟨kd, s1, s2, s3, s4, d⟩ = be 1 kd ++ (be 4 s1 ++ (be 4 s2 ++ (be 2 s3 ++ (be 2 s4 ++ be 2 d.length)))) from rfl]
    simp only [List.append_assoc])
  rw [HB.out]
  clear hA h1 h2 h3 h4 h5 HB
  generalize fc ⟨kd, s1, s2, s3, s4, d⟩ = C at *
  generalize be 1 kd = b1 at *
  generalize be 4 s1 = b2 at *
  generalize be 4 s2 = b3 at *
  generalize be 2 s3 = b4 at *
  generalize be 2 s4 = b5 at *
  generalize be 2 d.length = b6 at *
  have a1 := app_list b1 b2
  have a2 := app_list (b1 ++ b2) b3
  have a3 := app_list ((b1 ++ b2) ++ b3) b4
  have a4 := app_list (((b1 ++ b2) ++ b3) ++ b4) b5
  have a5 := app_list ((((b1 ++ b2) ++ b3) ++ b4) ++ b5) b6
  have a6 := app_list (((((b1 ++ b2) ++ b3) ++ b4) ++ b5) ++ b6) d
  have m1 : (b1 ++ b2).length = 5 := by rw [List.length_append, L1, L2]
  have m2 : ((b1 ++ b2) ++ b3).length = 9 := by rw [List.length_append, m1, L3]
  have m3 : (((b1 ++ b2) ++ b3) ++ b4).length = 11 := by rw [List.length_append, m2, L4]
  have m4 : ((((b1 ++ b2) ++ b3) ++ b4) ++ b5).length = 13 := by rw [List.length_append, m3, L5]
  have m5 : (((((b1 ++ b2) ++ b3) ++ b4) ++ b5) ++ b6).length = 15 := by rw [List.length_append, m4, L6]
  generalize b1 ++ b2 = t1 at *
  generalize t1 ++ b3 = t2 at *
  generalize t2 ++ b4 = t3 at *
  generalize t3 ++ b5 = t4 at *
  generalize t4 ++ b6 = t5 at *
  have NS := Lib.hid (refSealed (t5 ++ d) (by rw [List.length_append]; omega)).keep
  generalize t5 ++ d = t6 at *
  generalize K.sealB t6 = t7 at *
  have HK := Lib.hid hK
  clear hK
  go_enter Try.func13, Try.ntmps13
  go_wp2_with fail
  refine wp_region_keep (Keep.refl W) (by kernel_rfl) (by kernel_rfl) ?_
  repeat (first | go_big_quiet_step (fail) | quiet_step (fail))
  first | go_big_quiet_step (exact N1.out.at _) | quiet_step (exact N1.out.at _)
  repeat (first | go_big_quiet_step (fail) | quiet_step (fail))
  first | go_big_quiet_step (exact N2.out.at _) | quiet_step (exact N2.out.at _)
  repeat (first | go_big_quiet_step (fail) | quiet_step (fail))
  first | go_big_quiet_step (exact N3.out.at _) | quiet_step (exact N3.out.at _)
  repeat (first | go_big_quiet_step (fail) | quiet_step (fail))
  first | go_big_quiet_step (exact N4.out.at _) | quiet_step (exact N4.out.at _)
  repeat (first | go_big_quiet_step (fail) | quiet_step (fail))
  first | go_big_quiet_step (exact N5.out.at _) | quiet_step (exact N5.out.at _)
  repeat (first | go_big_quiet_step (fail) | quiet_step (fail))
  first | go_big_quiet_step (exact N6.out.at _) | quiet_step (exact N6.out.at _)
  repeat (first | go_big_quiet_step (fail) | quiet_step (fail))
  first | go_big_quiet_step (exact NS.out.at _) | quiet_step (exact NS.out.at _)
  repeat (first | go_big_quiet_step (fail) | quiet_step (fail))
  refine wpQuiet_nil ?_
  rintro w5 ⟨⟨w6, b6⟩, rfl⟩
  go_wp2
  go_ret
  exact ⟨rfl, HK.out.trans b6⟩
end Go.Proofs.Ytcdcnlaijbjonaa
