/- Proved: what fits and Right of frame, and the document's Right of a frame answer. Condition: numbers fit; a text's length fits. -/
import Derived.Test.YtifcibmpeolmdaaDoorFx
namespace Go.Proofs.YtifcibmpeolmdaaDoor
open Go.RowKit

/-- A number of so many bytes. -/
def fitsI (n : Int) (k : Nat) : Bool := decide (0 ≤ n ∧ n < 2 ^ (8 * k))
theorem fits_at (n : Int) (k : Nat) (hk : k = 2 ∨ k = 4) (h1 : -9223372036854775808 ≤ n) (h2 : n ≤ 9223372036854775807) (w : World) : Calls Tryd.prog 58 #[.int .i64 n, .int .i64 k] w fun e w' => e = .returned (.bool (fitsI n k)) ∧ w' = w := by
  unfold fitsI
  rcases hk with rfl | rfl
  · by_cases h : 0 ≤ n
    · go_enter Tryd.func58, Tryd.ntmps58
      go_wp2
      go_ret
      refine ⟨congrArg (fun b => Ending.returned (.bool b)) ?_, rfl⟩
      rw [Bool.eq_iff_iff, beq_iff_eq, decide_eq_true_eq]
      omega
    · have hw : IntKind.u64.wrap n = n + 18446744073709551616 := by rw [IntKind.wrap_u64]; omega
      rw [decide_eq_false (fun q => h q.1)]
      go_enter Tryd.func58, Tryd.ntmps58
      go_wp2
      go_ret
      refine ⟨congrArg (fun b => Ending.returned (.bool b)) ?_, rfl⟩
      exact beq_eq_false_iff_ne.2 (by omega)
  · by_cases h : 0 ≤ n
    · go_enter Tryd.func58, Tryd.ntmps58
      go_wp2
      go_ret
      refine ⟨congrArg (fun b => Ending.returned (.bool b)) ?_, rfl⟩
      rw [Bool.eq_iff_iff, beq_iff_eq, decide_eq_true_eq]
      omega
    · have hw : IntKind.u64.wrap n = n + 18446744073709551616 := by rw [IntKind.wrap_u64]; omega
      rw [decide_eq_false (fun q => h q.1)]
      go_enter Tryd.func58, Tryd.ntmps58
      go_wp2
      go_ret
      refine ⟨congrArg (fun b => Ending.returned (.bool b)) ?_, rfl⟩
      exact beq_eq_false_iff_ne.2 (by omega)

/-- A frame's numbers are ints, its Data a text. -/
structure SqF (f : Fr) : Prop where
  ses : -9223372036854775808 ≤ f.ses ∧ f.ses ≤ 9223372036854775807
  ep : -9223372036854775808 ≤ f.ep ∧ f.ep ≤ 9223372036854775807
  idx : -9223372036854775808 ≤ f.idx ∧ f.idx ≤ 9223372036854775807
  tot : -9223372036854775808 ≤ f.tot ∧ f.tot ≤ 9223372036854775807
  data : f.data.length ≤ 9223372036854775807
theorem right_parts (f : Fr) : decide (rightF f) = ((decide (f.kind = 1) || decide (f.kind = 2)) && fitsI f.ses 4 && fitsI f.ep 4 && fitsI f.idx 2 && fitsI f.tot 2 && decide (f.data.length ≤ 65000)) := by
  rw [Bool.eq_iff_iff, decide_eq_true_eq]
  simp only [Bool.and_eq_true, Bool.or_eq_true, decide_eq_true_eq, fitsI]
  unfold rightF
  constructor
  · rintro ⟨h1, h2, h3, h4, h5, h6⟩
    exact ⟨⟨⟨⟨⟨h1, h2⟩, h3⟩, h4⟩, h5⟩, h6⟩
  · rintro ⟨⟨⟨⟨⟨h1, h2⟩, h3⟩, h4⟩, h5⟩, h6⟩
    exact ⟨h1, h2, h3, h4, h5, h6⟩

set_option maxRecDepth 100000 in
theorem dright (f : Fr) (hs : SqF f) (w : World) : Calls Tryd.prog 32 #[.agg (fc f)] w fun e w' => e = .returned (.bool (decide (rightF f))) ∧ Keep w w' := by
  have hA := FAt.new w f
  have HK := Lib.hid (show Keep w (w.alloc (.cells (fc f) 32)) from (Keep.refl w).alloc _)
  have h0 := hA.kind
  have h1 := hA.ses
  have h2 := hA.ep
  have h3 := hA.idx
  have h4 := hA.tot
  have h5 := hA.data
  have F1 := Lib.hid (fun w => fits_at f.ses 4 (.inr rfl) hs.ses.1 hs.ses.2 w)
  have F2 := Lib.hid (fun w => fits_at f.ep 4 (.inr rfl) hs.ep.1 hs.ep.2 w)
  have F3 := Lib.hid (fun w => fits_at f.idx 2 (.inl rfl) hs.idx.1 hs.idx.2 w)
  have F4 := Lib.hid (fun w => fits_at f.tot 2 (.inl rfl) hs.tot.1 hs.tot.2 w)
  rw [right_parts, show decide (f.data.length ≤ 65000) = decide ((f.data.length : Int) ≤ 65000) from decide_eq_decide.2 (by omega)]
  have hd := hs.data
  generalize fitsI f.ses 4 = b1 at *
  generalize fitsI f.ep 4 = b2 at *
  generalize fitsI f.idx 2 = b3 at *
  generalize fitsI f.tot 2 = b4 at *
  generalize f.ses = s1 at *
  generalize f.ep = s2 at *
  generalize f.idx = s3 at *
  generalize f.tot = s4 at *
  generalize f.kind = k at *
  generalize f.data = d at *
  clear hA hs
  generalize fc f = C at *
  by_cases hk : k = 1 ∨ k = 2
  · rw [show (decide (k = 1) || decide (k = 2)) = true by simp [hk], Bool.true_and]
    rcases hk with rfl | rfl
    · go_enter Tryd.func32, Tryd.ntmps32
      go_wp2_with fail
      refine (F1.out _).mono ?_
      rintro e w ⟨rfl, rfl⟩
      cases b1
      · go_wp2
        go_ret
        exact ⟨rfl, HK.out⟩
      go_wp2_with fail
      refine (F2.out _).mono ?_
      rintro e w ⟨rfl, rfl⟩
      cases b2
      · go_wp2
        go_ret
        exact ⟨rfl, HK.out⟩
      go_wp2_with fail
      refine (F3.out _).mono ?_
      rintro e w ⟨rfl, rfl⟩
      cases b3
      · go_wp2
        go_ret
        exact ⟨rfl, HK.out⟩
      go_wp2_with fail
      refine (F4.out _).mono ?_
      rintro e w ⟨rfl, rfl⟩
      cases b4
      · go_wp2
        go_ret
        exact ⟨rfl, HK.out⟩
      go_wp2
      go_ret
      exact ⟨rfl, HK.out⟩
    · go_enter Tryd.func32, Tryd.ntmps32
      go_wp2_with fail
      refine (F1.out _).mono ?_
      rintro e w ⟨rfl, rfl⟩
      cases b1
      · go_wp2
        go_ret
        exact ⟨rfl, HK.out⟩
      go_wp2_with fail
      refine (F2.out _).mono ?_
      rintro e w ⟨rfl, rfl⟩
      cases b2
      · go_wp2
        go_ret
        exact ⟨rfl, HK.out⟩
      go_wp2_with fail
      refine (F3.out _).mono ?_
      rintro e w ⟨rfl, rfl⟩
      cases b3
      · go_wp2
        go_ret
        exact ⟨rfl, HK.out⟩
      go_wp2_with fail
      refine (F4.out _).mono ?_
      rintro e w ⟨rfl, rfl⟩
      cases b4
      · go_wp2
        go_ret
        exact ⟨rfl, HK.out⟩
      go_wp2
      go_ret
      exact ⟨rfl, HK.out⟩
  · rw [show (decide (k = 1) || decide (k = 2)) = false by simpa using hk, Bool.false_and, Bool.false_and, Bool.false_and, Bool.false_and, Bool.false_and]
    have hk1 : (k == 1) = false := by simp; omega
    have hk2 : (k == 2) = false := by simp; omega
    go_enter Tryd.func32, Tryd.ntmps32
    go_wp2
    go_ret
    exact ⟨rfl, HK.out⟩
set_option maxRecDepth 100000 in
set_option maxHeartbeats 1000000 in
theorem qright (f : Fr) (hd : f.data.length ≤ 9223372036854775807) (w : World) : Calls Tryd.prog 60 #[.agg (fc f)] w fun e w' => e = .returned (.bool (decide (rightF f))) ∧ Keep w w' := by
  have hA := FAt.new w f
  have HK := Lib.hid (show Keep w (w.alloc (.cells (fc f) 32)) from (Keep.refl w).alloc _)
  have h0 := hA.kind
  have h1 := hA.ses
  have h2 := hA.ep
  have h3 := hA.idx
  have h4 := hA.tot
  have h5 := hA.data
  have HR := Lib.hid (show decide (rightF f) = ((decide (f.kind = 1) || decide (f.kind = 2)) && decide (0 ≤ f.ses) && decide (f.ses < 4294967296) && decide (0 ≤ f.ep) && decide (f.ep < 4294967296) && decide (0 ≤ f.idx) && decide (f.idx < 65536) && decide (0 ≤ f.tot) && decide (f.tot < 65536) && decide ((f.data.length : Int) ≤ 65000)) by
    rw [Bool.eq_iff_iff, decide_eq_true_eq]
    simp only [Bool.and_eq_true, Bool.or_eq_true, decide_eq_true_eq]
    unfold rightF
    constructor
    · rintro ⟨h1, h2, h3, h4, h5, h6⟩
      exact ⟨⟨⟨⟨⟨⟨⟨⟨⟨h1, h2.1⟩, h2.2⟩, h3.1⟩, h3.2⟩, h4.1⟩, h4.2⟩, h5.1⟩, h5.2⟩, by omega⟩
    · rintro ⟨⟨⟨⟨⟨⟨⟨⟨⟨h1, a1⟩, a2⟩, a3⟩, a4⟩, a5⟩, a6⟩, a7⟩, a8⟩, h6⟩
      exact ⟨h1, ⟨a1, a2⟩, ⟨a3, a4⟩, ⟨a5, a6⟩, ⟨a7, a8⟩, by omega⟩)
  rw [HR.out]
  generalize f.ses = s1 at *
  generalize f.ep = s2 at *
  generalize f.idx = s3 at *
  generalize f.tot = s4 at *
  generalize f.kind = k at *
  generalize f.data = d at *
  clear hA HR
  generalize fc f = C at *
  by_cases hk : k = 1 ∨ k = 2
  · rw [show (decide (k = 1) || decide (k = 2)) = true by simp [hk], Bool.true_and]
    rcases hk with rfl | rfl
    · by_cases q0 : 0 ≤ s1
      rotate_left
      · have e0 : decide (s1 ≥ 0) = false := decide_eq_false q0
        rw [decide_eq_false q0]
        simp only [Bool.false_and]
        go_enter Tryd.func60, Tryd.ntmps60
        go_wp2
        go_ret
        exact ⟨rfl, HK.out⟩
      have e0 : decide (s1 ≥ 0) = true := decide_eq_true q0
      rw [decide_eq_true q0, Bool.true_and]
      by_cases q1 : s1 < 4294967296
      rotate_left
      · have e1 : decide (s1 < 4294967296) = false := decide_eq_false q1
        rw [decide_eq_false q1]
        simp only [Bool.false_and]
        go_enter Tryd.func60, Tryd.ntmps60
        go_wp2
        go_ret
        exact ⟨rfl, HK.out⟩
      have e1 : decide (s1 < 4294967296) = true := decide_eq_true q1
      rw [decide_eq_true q1, Bool.true_and]
      by_cases q2 : 0 ≤ s2
      rotate_left
      · have e2 : decide (s2 ≥ 0) = false := decide_eq_false q2
        rw [decide_eq_false q2]
        simp only [Bool.false_and]
        go_enter Tryd.func60, Tryd.ntmps60
        go_wp2
        go_ret
        exact ⟨rfl, HK.out⟩
      have e2 : decide (s2 ≥ 0) = true := decide_eq_true q2
      rw [decide_eq_true q2, Bool.true_and]
      by_cases q3 : s2 < 4294967296
      rotate_left
      · have e3 : decide (s2 < 4294967296) = false := decide_eq_false q3
        rw [decide_eq_false q3]
        simp only [Bool.false_and]
        go_enter Tryd.func60, Tryd.ntmps60
        go_wp2
        go_ret
        exact ⟨rfl, HK.out⟩
      have e3 : decide (s2 < 4294967296) = true := decide_eq_true q3
      rw [decide_eq_true q3, Bool.true_and]
      by_cases q4 : 0 ≤ s3
      rotate_left
      · have e4 : decide (s3 ≥ 0) = false := decide_eq_false q4
        rw [decide_eq_false q4]
        simp only [Bool.false_and]
        go_enter Tryd.func60, Tryd.ntmps60
        go_wp2
        go_ret
        exact ⟨rfl, HK.out⟩
      have e4 : decide (s3 ≥ 0) = true := decide_eq_true q4
      rw [decide_eq_true q4, Bool.true_and]
      by_cases q5 : s3 < 65536
      rotate_left
      · have e5 : decide (s3 < 65536) = false := decide_eq_false q5
        rw [decide_eq_false q5]
        simp only [Bool.false_and]
        go_enter Tryd.func60, Tryd.ntmps60
        go_wp2
        go_ret
        exact ⟨rfl, HK.out⟩
      have e5 : decide (s3 < 65536) = true := decide_eq_true q5
      rw [decide_eq_true q5, Bool.true_and]
      by_cases q6 : 0 ≤ s4
      rotate_left
      · have e6 : decide (s4 ≥ 0) = false := decide_eq_false q6
        rw [decide_eq_false q6]
        simp only [Bool.false_and]
        go_enter Tryd.func60, Tryd.ntmps60
        go_wp2
        go_ret
        exact ⟨rfl, HK.out⟩
      have e6 : decide (s4 ≥ 0) = true := decide_eq_true q6
      rw [decide_eq_true q6, Bool.true_and]
      by_cases q7 : s4 < 65536
      rotate_left
      · have e7 : decide (s4 < 65536) = false := decide_eq_false q7
        rw [decide_eq_false q7]
        simp only [Bool.false_and]
        go_enter Tryd.func60, Tryd.ntmps60
        go_wp2
        go_ret
        exact ⟨rfl, HK.out⟩
      have e7 : decide (s4 < 65536) = true := decide_eq_true q7
      rw [decide_eq_true q7, Bool.true_and]
      go_enter Tryd.func60, Tryd.ntmps60
      go_wp2
      go_ret
      exact ⟨rfl, HK.out⟩
    · by_cases q0 : 0 ≤ s1
      rotate_left
      · have e0 : decide (s1 ≥ 0) = false := decide_eq_false q0
        rw [decide_eq_false q0]
        simp only [Bool.false_and]
        go_enter Tryd.func60, Tryd.ntmps60
        go_wp2
        go_ret
        exact ⟨rfl, HK.out⟩
      have e0 : decide (s1 ≥ 0) = true := decide_eq_true q0
      rw [decide_eq_true q0, Bool.true_and]
      by_cases q1 : s1 < 4294967296
      rotate_left
      · have e1 : decide (s1 < 4294967296) = false := decide_eq_false q1
        rw [decide_eq_false q1]
        simp only [Bool.false_and]
        go_enter Tryd.func60, Tryd.ntmps60
        go_wp2
        go_ret
        exact ⟨rfl, HK.out⟩
      have e1 : decide (s1 < 4294967296) = true := decide_eq_true q1
      rw [decide_eq_true q1, Bool.true_and]
      by_cases q2 : 0 ≤ s2
      rotate_left
      · have e2 : decide (s2 ≥ 0) = false := decide_eq_false q2
        rw [decide_eq_false q2]
        simp only [Bool.false_and]
        go_enter Tryd.func60, Tryd.ntmps60
        go_wp2
        go_ret
        exact ⟨rfl, HK.out⟩
      have e2 : decide (s2 ≥ 0) = true := decide_eq_true q2
      rw [decide_eq_true q2, Bool.true_and]
      by_cases q3 : s2 < 4294967296
      rotate_left
      · have e3 : decide (s2 < 4294967296) = false := decide_eq_false q3
        rw [decide_eq_false q3]
        simp only [Bool.false_and]
        go_enter Tryd.func60, Tryd.ntmps60
        go_wp2
        go_ret
        exact ⟨rfl, HK.out⟩
      have e3 : decide (s2 < 4294967296) = true := decide_eq_true q3
      rw [decide_eq_true q3, Bool.true_and]
      by_cases q4 : 0 ≤ s3
      rotate_left
      · have e4 : decide (s3 ≥ 0) = false := decide_eq_false q4
        rw [decide_eq_false q4]
        simp only [Bool.false_and]
        go_enter Tryd.func60, Tryd.ntmps60
        go_wp2
        go_ret
        exact ⟨rfl, HK.out⟩
      have e4 : decide (s3 ≥ 0) = true := decide_eq_true q4
      rw [decide_eq_true q4, Bool.true_and]
      by_cases q5 : s3 < 65536
      rotate_left
      · have e5 : decide (s3 < 65536) = false := decide_eq_false q5
        rw [decide_eq_false q5]
        simp only [Bool.false_and]
        go_enter Tryd.func60, Tryd.ntmps60
        go_wp2
        go_ret
        exact ⟨rfl, HK.out⟩
      have e5 : decide (s3 < 65536) = true := decide_eq_true q5
      rw [decide_eq_true q5, Bool.true_and]
      by_cases q6 : 0 ≤ s4
      rotate_left
      · have e6 : decide (s4 ≥ 0) = false := decide_eq_false q6
        rw [decide_eq_false q6]
        simp only [Bool.false_and]
        go_enter Tryd.func60, Tryd.ntmps60
        go_wp2
        go_ret
        exact ⟨rfl, HK.out⟩
      have e6 : decide (s4 ≥ 0) = true := decide_eq_true q6
      rw [decide_eq_true q6, Bool.true_and]
      by_cases q7 : s4 < 65536
      rotate_left
      · have e7 : decide (s4 < 65536) = false := decide_eq_false q7
        rw [decide_eq_false q7]
        simp only [Bool.false_and]
        go_enter Tryd.func60, Tryd.ntmps60
        go_wp2
        go_ret
        exact ⟨rfl, HK.out⟩
      have e7 : decide (s4 < 65536) = true := decide_eq_true q7
      rw [decide_eq_true q7, Bool.true_and]
      go_enter Tryd.func60, Tryd.ntmps60
      go_wp2
      go_ret
      exact ⟨rfl, HK.out⟩
  · rw [show (decide (k = 1) || decide (k = 2)) = false by simpa using hk]
    simp only [Bool.false_and]
    have hk1 : (k == 1) = false := by simp; omega
    have hk2 : (k == 2) = false := by simp; omega
    go_enter Tryd.func60, Tryd.ntmps60
    go_wp2
    go_ret
    exact ⟨rfl, HK.out⟩

end Go.Proofs.YtifcibmpeolmdaaDoor
