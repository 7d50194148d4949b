/- Proved: the laws' first line, awake, answers true and turns nothing that was there. Condition: the library's table is as its text lays it. -/
import Derived.Test.YtabniphnmlbkfaaDoorW2
namespace Go.Proofs.YtabniphnmlbkfaaDoor
open Go.RowKit

def A0 : Px := ⟨false, [10, 0, 0, 0, 0, 0, 0, 0, 0, 0, 0, 0, 0, 0, 0, 0], 8⟩
def B0 : Px := ⟨false, [10, 1, 0, 0, 0, 0, 0, 0, 0, 0, 0, 0, 0, 0, 0, 0], 16⟩
def C0 : Px := ⟨false, zl, 33⟩
theorem k1 : makeP false [10, 1, 2, 3] 8 = some A0 := by decide +kernel
theorem k2 : makeP false [10, 1, 2, 3] 16 = some B0 := by decide +kernel
theorem k3 : makeP false [97, 98, 99] 3 = none := by decide +kernel
theorem k4 : rightP A0 := by decide +kernel
theorem k5 : rightP B0 := by decide +kernel
theorem k6 : ¬ rightP C0 := by decide +kernel
theorem k7 : commonZ A0 B0 = 8 := by decide +kernel
theorem k8 : commonZ B0 A0 = 8 := by decide +kernel
theorem k9 : hasB A0 B0 = true := by rw [hasB_eq, k7]; rfl
theorem k10 : hasB B0 A0 = false := by rw [hasB_eq, k8]; rfl
theorem k11 : cmpP A0 B0 = -1 := by decide +kernel
theorem k12 : bytesL B0 = [16, 10, 1] := by decide +kernel
theorem k13 : readF [16, 10, 1] 0 = (B0, 0, [], 0) := by decide +kernel
theorem k14 : (readF [8] 0).2.1 = 3 := by decide +kernel
theorem k15 : (readF [33, 97, 98, 99, 100, 101] 0).2.1 = 4 := by decide +kernel
theorem k16 : bitZ B0 4 = 1 := by decide +kernel
theorem k17 : bitZ B0 16 = -1 := by decide +kernel
theorem k18 : textL B0 = [49, 48, 46, 49, 46, 48, 46, 48, 47, 49, 54] := by
  have d0 : dec 0 = [48] := Lib.decDigits_one (by omega)
  have d1 : dec 1 = [49] := Lib.decDigits_one (by omega)
  have d10 : dec 10 = [49, 48] := Lib.decDigits_two (by omega) (by omega)
  have d16 : dec 16 = [49, 54] := Lib.decDigits_two (by omega) (by omega)
  show addrL false B0.addr ++ 47 :: dec 16 = _
  unfold addrL
  simp only [Bool.false_eq_true, if_false]
  rw [four_form]
  show dec 10 ++ 46 :: (dec 1 ++ 46 :: (dec 0 ++ 46 :: dec 0)) ++ 47 :: dec 16 = _
  rw [d0, d1, d10, d16]
  rfl

theorem readF_len (l : List UInt8) (x : Int) : (readF l x).1.addr.length = 16 := by
  unfold readF
  split <;> exact takeF_len l x
/-- A prefix is laid into a block of its own. -/
theorem new_at (w : World) (p : Px) (hp : p.addr.length = 16) : ∃ w', (storeCells ⟨w.heap.size, 0, none⟩ (pc p).toList).run Tryd.prog (w.alloc (.cells (pc zeroP) 24)) = .ok () w' ∧ At w' w.heap.size p ∧ Same w w' :=
  ⟨_, (one_at w zeroP rfl).1.store p hp, (one_at w zeroP rfl).1.put p hp, ((Same.refl w).alloc _).setRow _ _ (Nat.le_refl _)⟩
theorem Same.only {u v w : World} {b : Nat} (h : Same u v) (k : Only b v w) (hb : u.heap.size ≤ b) : Same u w :=
  ⟨by rw [k.os]; exact h.os, by rw [k.tape]; exact h.tape, by rw [k.output]; exact h.output, Nat.le_trans h.size k.size, fun i hi => by rw [k.block i (Nat.lt_of_lt_of_le hi h.size) (by omega)]; exact h.block i hi⟩
def ReadNew (w : World) (l : List UInt8) (e : Ending) (w' : World) : Prop := e = .returned (.tuple #[.agg (pc (readF l 0).1), .int .i64 (readF l 0).2.1]) ∧ Same w w'
theorem read_new (b : Nat) (l : List UInt8) (w w' : World) (h : Rd w' b l 0) (hs : Same w w') (hb : w.heap.size ≤ b) : Calls Tryd.prog 24 #[.pointer (some ⟨b, 0, none⟩)] w' (ReadNew w l) := by
  refine (read_at b l 0 w' h).mono ?_
  rintro e w2 ⟨rfl, _, ho⟩
  exact ⟨rfl, hs.only ho hb⟩

set_option maxRecDepth 100000 in
set_option maxHeartbeats 2000000 in
theorem awake : GivesT 12 #[] (.bool true) := by
  intro w ht
  obtain ⟨hz, hi⟩ := zero_of_info info24
  obtain ⟨n2, hn2⟩ : ∃ n, n = 18 := ⟨18, rfl⟩
  have hsz2 : ∀ w, (Go.sizeOf 24).run Tryd.prog w = .ok n2 w := fun w => by rw [hn2]; exact Tryd.sizeOf24 w
  have sz : ∀ p : Px, p.addr.length = 16 → (pc p).size = n2 := fun p hp => by rw [hn2]; exact pc_size p hp
  have HN2 := Lib.hid hn2
  have HT := Lib.hid ht
  have szA := sz A0 rfl
  have szB := sz B0 rfl
  have szZ := sz zeroP rfl
  have r1 := readF_len [8] 0
  have r2 := readF_len [33, 97, 98, 99, 100, 101] 0
  have e14 := k14
  have e15 := k15
  have e13 := k13
  have HR0 := Lib.hid (fun b w w' h hs hb => read_new b [16, 10, 1] w w' h hs hb)
  have HR1 := Lib.hid (fun b w w' h hs hb => read_new b [8] w w' h hs hb)
  have HR2 := Lib.hid (fun b w w' h hs hb => read_new b [33, 97, 98, 99, 100, 101] w w' h hs hb)
  unfold ReadNew at HR0 HR1 HR2
  rw [e13] at HR0
  rw [e14] at HR1
  rw [e15] at HR2
  simp only at HR0
  generalize (readF [8] 0).1 = P1 at *
  generalize (readF [33, 97, 98, 99, 100, 101] 0).1 = P2 at *
  have sz1 := sz P1 r1
  have sz2 := sz P2 r2
  have hm1 := Lib.hid (make_ok false [10, 1, 2, 3] 8 A0 k1)
  have hm2 := Lib.hid (make_ok false [10, 1, 2, 3] 16 B0 k2)
  have hm3 := Lib.hid (make_no false [97, 98, 99] 3 (by decide) k3)
  have hby := Lib.hid (bytes_ok B0 rfl k5)
  rw [k12] at hby
  have hAB := Lib.hid (contains A0 B0 rfl rfl)
  have hBA := Lib.hid (contains B0 A0 rfl rfl)
  rw [k9] at hAB
  rw [k10] at hBA
  have hcm := Lib.hid (compare A0 B0 rfl rfl)
  rw [k11] at hcm
  have htx := Lib.hid (text_ok B0 rfl k5)
  rw [k18] at htx
  have hb4 := Lib.hid (bit B0 rfl 4 (by omega))
  have hb16 := Lib.hid (bit B0 rfl 16 (by omega))
  rw [k16] at hb4
  rw [k17] at hb16
  have hco := Lib.hid (common A0 B0 rfl rfl)
  rw [k7] at hco
  have hrA := Lib.hid (right A0 rfl)
  rw [decide_eq_true k4] at hrA
  have hrC := Lib.hid (right C0 rfl)
  rw [decide_eq_false k6] at hrC
  have HEq := Lib.hid (fun w => eq_pc B0 B0 rfl rfl w)
  have z1 : (pc zeroP).size = 18 := pc_size _ rfl
  have hne : pc zeroP ≠ #[] := by intro h; rw [h] at z1; simp at z1
  have f33 : (pc zeroP).setIfInBounds 17 (.int .i64 33) = pc C0 := set_len zeroP rfl 33
  clear hi hn2 ht sz e13 e14 e15
  go_enter Tryd.func12, Tryd.ntmps12
  go_wp2_with fail
  refine (hm1.out _).mono ?_
  rintro e w1 ⟨rfl, b1⟩
  obtain ⟨w2, st1, hA, s1⟩ := new_at w1 A0 rfl
  have b2 := b1.trans s1
  go_wp2_with fail
  refine (hm2.out _).mono ?_
  rintro e w3 ⟨rfl, b3⟩
  obtain ⟨w4, st2, hB, s2⟩ := new_at w3 B0 rfl
  have b4 := (b2.trans b3).trans s2
  have hA4 := hA.mono (b3.trans s2)
  clear st1 s1 hA b1 b2 b3 
  go_wp2_with fail
  refine (hm3.out _).mono ?_
  rintro e w5 ⟨rfl, b5⟩
  obtain ⟨w6, st3, hC, s3⟩ := new_at w5 zeroP rfl
  have b56 := b5.trans s3
  have b6 := b4.trans b56
  have hA6 := hA4.mono b56
  have hB6 := hB.mono b56
  have wB6 := hB6.whole HN2.out
  clear st2 s2 hB hA4 b4 b5 s3 hC b56
  go_wp2_with fail
  refine (hby.out _).mono ?_
  rintro e w7 ⟨rfl, b7⟩
  have b8 := b6.trans b7
  have hA7 := hA6.mono b7
  have hB7 := hB6.mono b7
  clear st3 b6 b7 hA6 hB6 wB6
  go_wp2_with fail
  refine (newreader [16, 10, 1] w7 (by simp [maxLen])).mono ?_
  rintro e w8 ⟨_, rfl, rfl, hr8, hs8⟩
  go_wp2_with fail
  refine (HR0.out _ w7 w8 hr8 hs8 (Nat.le_refl _)).mono ?_
  rintro e w9 ⟨rfl, q8⟩
  obtain ⟨w10, st8, hN8, s8⟩ := new_at w9 B0 rfl
  have t8 := q8.trans s8
  have u8 := b8.trans t8
  have A8 := hA7.mono t8
  have B8 := hB7.mono t8
  have C8 := hN8
  clear b8 hA7 hB7 hr8 hs8 q8 s8
  go_wp2_with fail
  refine (newreader [8] w10 (by simp [maxLen])).mono ?_
  rintro e w11 ⟨_, rfl, rfl, hr11, hs11⟩
  go_wp2_with fail
  refine (HR1.out _ w10 w11 hr11 hs11 (Nat.le_refl _)).mono ?_
  rintro e w12 ⟨rfl, q11⟩
  obtain ⟨w13, st11, hN11, s11⟩ := new_at w12 P1 r1
  have t11 := q11.trans s11
  have u11 := u8.trans t11
  have A11 := A8.mono t11
  have B11 := B8.mono t11
  have C11 := C8.mono t11
  clear u8 A8 B8 hr11 hs11 q11 s11 C8 hN11
  go_wp2_with fail
  refine (newreader [33, 97, 98, 99, 100, 101] w13 (by simp [maxLen])).mono ?_
  rintro e w14 ⟨_, rfl, rfl, hr14, hs14⟩
  go_wp2_with fail
  refine (HR2.out _ w13 w14 hr14 hs14 (Nat.le_refl _)).mono ?_
  rintro e w15 ⟨rfl, q14⟩
  obtain ⟨w16, st14, hN14, s14⟩ := new_at w15 P2 r2
  have t14 := q14.trans s14
  have u14 := u11.trans t14
  have A14 := A11.mono t14
  have B14 := B11.mono t14
  have C14 := C11.mono t14
  clear u11 A11 B11 hr14 hs14 q14 s14 C11 hN14
  have fA := A14.whole HN2.out
  have fB := B14.whole HN2.out
  have fC := C14.whole HN2.out
  go_wp2_with fail
  refine (hAB.out _).mono ?_
  rintro e w17 ⟨rfl, q17⟩
  have u17 := u14.trans q17
  have A17 := A14.mono q17
  have B17 := B14.mono q17
  have C17 := C14.mono q17
  clear fA fB fC u14 A14 B14 C14 q17
  have fA := A17.whole HN2.out
  have fB := B17.whole HN2.out
  have fC := C17.whole HN2.out
  go_wp2_with fail
  refine (hBA.out _).mono ?_
  rintro e w18 ⟨rfl, q18⟩
  have u18 := u17.trans q18
  have A18 := A17.mono q18
  have B18 := B17.mono q18
  have C18 := C17.mono q18
  clear fA fB fC u17 A17 B17 C17 q18
  have fA := A18.whole HN2.out
  have fB := B18.whole HN2.out
  have fC := C18.whole HN2.out
  go_wp2_with fail
  refine (hcm.out _).mono ?_
  rintro e w19 ⟨rfl, q19⟩
  have u19 := u18.trans q19
  have A19 := A18.mono q19
  have B19 := B18.mono q19
  have C19 := C18.mono q19
  clear fA fB fC u18 A18 B18 C18 q19
  have heq := HEq.out
  have fA := A19.whole HN2.out
  have fB := B19.whole HN2.out
  have fC := C19.whole HN2.out
  go_wp2_with fail
  refine (htx.out _ (HT.out.mono u19)).mono ?_
  rintro e w20 ⟨rfl, q20⟩
  have u20 := u19.trans q20
  have A20 := A19.mono q20
  have B20 := B19.mono q20
  have C20 := C19.mono q20
  clear fA fB fC u19 A19 B19 C19 q20
  have fA := A20.whole HN2.out
  have fB := B20.whole HN2.out
  have fC := C20.whole HN2.out
  go_wp2_with fail
  refine (hb4.out _).mono ?_
  rintro e w21 ⟨rfl, q21⟩
  have u21 := u20.trans q21
  have A21 := A20.mono q21
  have B21 := B20.mono q21
  have C21 := C20.mono q21
  clear fA fB fC u20 A20 B20 C20 q21
  have fA := A21.whole HN2.out
  have fB := B21.whole HN2.out
  have fC := C21.whole HN2.out
  go_wp2_with fail
  refine (hb16.out _).mono ?_
  rintro e w22 ⟨rfl, q22⟩
  have u22 := u21.trans q22
  have A22 := A21.mono q22
  have B22 := B21.mono q22
  have C22 := C21.mono q22
  clear fA fB fC u21 A21 B21 C21 q22
  have fA := A22.whole HN2.out
  have fB := B22.whole HN2.out
  have fC := C22.whole HN2.out
  go_wp2_with fail
  refine (hco.out _).mono ?_
  rintro e w23 ⟨rfl, q23⟩
  have u23 := u22.trans q23
  have A23 := A22.mono q23
  have B23 := B22.mono q23
  have C23 := C22.mono q23
  clear fA fB fC u22 A22 B22 C22 q23
  have fA := A23.whole HN2.out
  have fB := B23.whole HN2.out
  have fC := C23.whole HN2.out
  go_wp2_with fail
  refine (hrA.out _).mono ?_
  rintro e w24 ⟨rfl, q24⟩
  have u24 := u23.trans q24
  have A24 := A23.mono q24
  have B24 := B23.mono q24
  have C24 := C23.mono q24
  clear fA fB fC u23 A23 B23 C23 q24
  have fA := A24.whole HN2.out
  have fB := B24.whole HN2.out
  have fC := C24.whole HN2.out
  go_wp2_with fail
  refine (hrC.out _).mono ?_
  rintro e w25 ⟨rfl, q25⟩
  have u25 := u24.trans q25
  have A25 := A24.mono q25
  have B25 := B24.mono q25
  have C25 := C24.mono q25
  clear fA fB fC u24 A24 B24 C24 q25
  go_wp2
  go_ret
  exact ⟨rfl, u25⟩
end Go.Proofs.YtabniphnmlbkfaaDoor
