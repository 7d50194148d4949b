/- Proved: the law's awake answers true. Condition: the library's table is as its text lays it. -/
import Derived.Test.YtbeppppipleaaaaDoorQc
namespace Go.Proofs.YtbeppppipleaaaaDoor
open Go.RowKit

def w0 : List Bool := List.replicate 5 false
def w1 : List Bool := [true, false, false, false, false]
def w2 : List Bool := [true, true, false, false, false]
def w3 : List Bool := [true, true, false, true, false]
theorem aw1 : setB w0 0 = true ∧ setL w0 0 = w1 := by decide
theorem aw2 : setB w1 1 = true ∧ setL w1 1 = w2 := by decide
theorem aw3 : setB w2 3 = true ∧ setL w2 3 = w3 := by decide
theorem aw4 : setB w3 3 = false ∧ setL w3 3 = w3 := by decide
theorem aw5 : baseN w3 = 2 ∧ cntN w3 = 3 ∧ w3.length = 5 := by decide
theorem aw6 : behB w3 8 = [1] ∧ behB w3 2 = [1] := by decide +kernel
theorem aw7 : newN w0 2 [1] = 3 ∧ merL w0 2 [1] = w3 := by decide +kernel
theorem aw8 : hasB w3 3 = true ∧ hasB w3 2 = false := by decide
theorem aw9 : misL w3 0 9 = [2, 4] := by decide
theorem aw10 : setB w3 5 = false ∧ setL w3 5 = w3 := by decide
theorem two_int (w : World) (k j : Nat) : Cells ie (w.alloc (.cells #[.int .i64 k, .int .i64 j] 3)) (.slice (some ⟨w.heap.size, 0, none⟩) 2 2) [k, j] := by
  refine .inr ⟨w.heap.size, 0, 2, rfl, Nat.le_refl _, by unfold maxLen; omega, by simp, fun i u hj => ?_⟩
  have hj0 : i < 2 := by
    have := (List.getElem?_eq_some_iff.1 hj).1
    simpa [flat, ie] using this
  rcases (show i = 0 ∨ i = 1 by omega) with rfl | rfl
  · simp [flat, ie] at hj
    subst hj
    exact cell_obj (heap_alloc_last w _) rfl
  · simp [flat, ie] at hj
    subst hj
    exact cell_obj (heap_alloc_last w _) rfl

set_option maxRecDepth 100000 in
set_option maxHeartbeats 1000000 in
theorem awake (w : World) (ht : Tab w) : Calls Tryd.prog 10 #[] w fun e w' => e = .returned (.bool true) ∧ Keep w w' := by
  have HT := Lib.hid ht
  clear ht
  go_enter Tryd.func10, Tryd.ntmps10
  go_wp2_with fail
  refine (new_at 5 (by omega) (by omega) w HT.out).mono ?_
  rintro e v1 ⟨b, rfl, hb, m1, k1⟩
  rw [show List.replicate 5 false = w0 from rfl] at m1
  have M1 := Lib.hid m1
  have K1 := Lib.hid k1
  clear m1 k1
  go_wp2_with fail
  refine (new_bad 0 v1 (by omega)).mono ?_
  rintro e v ⟨rfl, rfl⟩
  have s1 := set_at b w0 0 _ M1.out
  rw [aw1.1, aw1.2] at s1
  have S1 := Lib.hid s1
  clear s1
  go_wp2_with fail
  refine S1.out.mono ?_
  rintro e v2 ⟨rfl, m2, o2⟩
  have s2 := set_at b w1 1 _ m2
  rw [aw2.1, aw2.2] at s2
  have S2 := Lib.hid s2
  have O2 := Lib.hid o2
  clear s2 m2 o2
  go_wp2_with fail
  refine S2.out.mono ?_
  rintro e v3 ⟨rfl, m3, o3⟩
  have s3 := set_at b w2 3 _ m3
  rw [aw3.1, aw3.2] at s3
  have S3 := Lib.hid s3
  have O3 := Lib.hid (O2.out.trans o3)
  clear s3 m3 o3
  go_wp2_with fail
  refine S3.out.mono ?_
  rintro e v4 ⟨rfl, m4, o4⟩
  have s4 := set_at b w3 3 _ m4
  rw [aw4.1, aw4.2] at s4
  have S4 := Lib.hid s4
  have O4 := Lib.hid (O3.out.trans o4)
  clear s4 m4 o4
  go_wp2_with fail
  refine S4.out.mono ?_
  rintro e v5 ⟨rfl, m5, o5⟩
  have M5 := Lib.hid m5
  have K5 := Lib.hid ((O4.out.trans o5).made K1.out hb)
  clear m5 o5
  go_wp2_with fail
  refine (new_at 5 (by omega) (by omega) v5 M5.out.tab).mono ?_
  rintro e v6 ⟨c, rfl, hc, m6, k6⟩
  rw [show List.replicate 5 false = w0 from rfl] at m6
  have M6 := Lib.hid m6
  have MB6 := Lib.hid (M5.out.keep k6)
  have K6 := Lib.hid (K5.out.trans k6)
  have hbc : b ≠ c := by have := M5.out.lt; omega
  clear m6 k6
  have bs := mbase_at b w3 _ MB6.out
  rw [aw5.1] at bs
  have BS := Lib.hid bs
  have bh := behind_at b w3 8 _ MB6.out
  rw [aw6.1] at bh
  have BH := Lib.hid bh
  clear bs bh
  go_wp2_with fail
  refine BS.out.mono ?_
  rintro e v ⟨rfl, rfl⟩
  go_wp2_with fail
  refine BH.out.mono ?_
  rintro e v7 ⟨rfl, k7⟩
  have mg := merge_at c w0 2 [1] _ (M6.out.keep k7) (by omega) (by omega) (by simp)
  rw [aw7.1, aw7.2] at mg
  have MG := Lib.hid mg
  have MB7 := Lib.hid (MB6.out.keep k7)
  have K7 := Lib.hid (K6.out.trans k7)
  clear mg k7
  go_wp2_with fail
  refine MG.out.mono ?_
  rintro e v8 ⟨rfl, m8, o8⟩
  have M8 := Lib.hid m8
  have hc0 : 0 < c := M8.out.pos
  have MB8 := Lib.hid (MB7.out.only o8 hbc hc0)
  have K8 := Lib.hid (o8.made K7.out (by have := K5.out.size; omega))
  clear m8 o8
  have bs := mbase_at b w3 _ MB8.out
  rw [aw5.1] at bs
  have BS := Lib.hid bs
  have ct := count_at b w3 _ MB8.out
  rw [aw5.2.1] at ct
  have CT := Lib.hid ct
  clear bs ct
  go_wp2_with fail
  refine BS.out.mono ?_
  rintro e v ⟨rfl, rfl⟩
  go_wp2_with fail
  refine CT.out.mono ?_
  rintro e v ⟨rfl, rfl⟩
  have bh := behind_at b w3 2 _ MB8.out
  rw [aw6.2] at bh
  have BH := Lib.hid bh
  clear bh
  go_wp2_with fail
  refine BH.out.mono ?_
  rintro e v9 ⟨rfl, k9⟩
  have M9 := Lib.hid (M8.out.keep k9)
  have MB9 := Lib.hid (MB8.out.keep k9)
  have K9 := Lib.hid (K8.out.trans k9)
  clear k9
  have h3 := has_at c w3 3 _ M9.out
  rw [aw8.1] at h3
  have H3 := Lib.hid h3
  clear h3
  go_wp2_with fail
  refine H3.out.mono ?_
  rintro e v10 ⟨rfl, k10⟩
  have M10 := Lib.hid (M9.out.keep k10)
  have MB10 := Lib.hid (MB9.out.keep k10)
  have K10 := Lib.hid (K9.out.trans k10)
  clear k10
  have h2 := has_at c w3 2 _ M10.out
  rw [aw8.2] at h2
  have H2 := Lib.hid h2
  clear h2
  go_wp2_with fail
  refine H2.out.mono ?_
  rintro e v11 ⟨rfl, k11⟩
  have MB11 := Lib.hid (MB10.out.keep k11)
  have K11 := Lib.hid (K10.out.trans k11)
  clear k11
  have ms := missing_at b w3 0 9 _ MB11.out (by omega)
  rw [aw9] at ms
  have MS := Lib.hid ms
  clear ms
  go_wp2_with fail
  refine MS.out.mono ?_
  rintro e v12 ⟨u, rfl, ou, k12⟩
  have OU := Lib.hid ou
  have MB12 := Lib.hid (MB11.out.keep k12)
  have K12 := Lib.hid (K11.out.trans k12)
  clear ou k12
  have HA := Lib.hid ((Keep.refl v12).alloc (.cells #[.int .i64 (2 : Nat), .int .i64 (4 : Nat)] 3))
  have sm := qsame u _ [2, 4] [2, 4] _ ((Own.row elI (OU.out.keep HA.out)).cells) (two_int v12 2 4) (by simp) (by simp)
  rw [decide_eq_true rfl] at sm
  have SM := Lib.hid sm
  clear sm
  go_wp2_with fail
  refine SM.out.mono ?_
  rintro e v13 ⟨rfl, k13⟩
  have k13b := HA.out.trans k13
  have MB13 := Lib.hid (MB12.out.keep k13b)
  have K13 := Lib.hid (K12.out.trans k13b)
  clear k13 k13b
  have fl := full_at b w3 _ MB13.out
  rw [aw5.1, aw5.2.2, decide_eq_false (by omega)] at fl
  have FL := Lib.hid fl
  clear fl
  go_wp2_with fail
  refine FL.out.mono ?_
  rintro e v14 ⟨rfl, k14⟩
  have MB14 := Lib.hid (MB13.out.keep k14)
  have K14 := Lib.hid (K13.out.trans k14)
  clear k14
  have ln := len_at b w3 _ MB14.out
  rw [aw5.2.2] at ln
  have LN := Lib.hid ln
  have sx := set_at b w3 5 _ MB14.out
  rw [aw10.1, aw10.2] at sx
  have SX := Lib.hid sx
  clear ln sx
  go_wp2_with fail
  refine LN.out.mono ?_
  rintro e v ⟨rfl, rfl⟩
  go_wp2_with fail
  refine SX.out.mono ?_
  rintro e v15 ⟨rfl, _, o15⟩
  have K15 := Lib.hid (o15.made K14.out hb)
  clear o15
  go_wp2
  go_ret
  exact ⟨rfl, K15.out⟩
end Go.Proofs.YtbeppppipleaaaaDoor
