/- Proved: the answers that the document fixes (awake) are given. No condition. -/
import Derived.Test.YtgfbiaidbkjeiaaM
namespace Go.Proofs.Ytgfbiaidbkjeiaa
open Go.RowKit

theorem info27 : (Try.prog.info? 27).map (fun i => (i.zero, i.size)) = some (some (.agg (wc (.pointer none) zl 0)), 66) := by kernel_rfl
/-- A new writer. -/
theorem Wr.new (w : World) : Wr (w.alloc (.cells (wc (.pointer none) zl 0) 27)) w.heap.size [] :=
  ⟨.pointer none, [], zl, heap_alloc_last w _, zl_len, rfl, rfl, by rw [bytesN_nil]; rfl⟩

def awL : List Bool := [true, false, false, true, true, false, true, false, true]
theorem aw_bits : ([] ++ codeL (capN 0) ++ codeL (capN 4)) ++ bitsL 5 (manyN 3) = awL := by decide +kernel
theorem aw_bytes : bytesL awL = [89, 1] := by decide +kernel
theorem aw_of : ofL [89, 1] = awL ++ List.replicate 7 false := by decide +kernel
theorem aw1 : codeF (awL ++ List.replicate 7 false) 0 = (0, (awL ++ List.replicate 7 false).drop 1, 0) := by decide +kernel
theorem aw2 : codeF ((awL ++ List.replicate 7 false).drop 1) 0 = (4, (awL ++ List.replicate 7 false).drop 6, 0) := by decide +kernel
theorem aw3 : bitsF ((awL ++ List.replicate 7 false).drop 6) 0 3 = (5, List.replicate 7 false, 0) := by decide +kernel
theorem aw4 : doneF (List.replicate 7 false) 0 = 0 := by decide +kernel
theorem aw5 : codeF (ofL [0]) 0 = (0, ofL [0], 3) := by decide +kernel
theorem aw6 : bitsF (ofL [97]) 0 65 = (0, ofL [97], 1) := by decide +kernel

set_option maxRecDepth 100000 in
set_option maxHeartbeats 1000000 in
theorem awake : Gives Try.prog 9 #[] (.bool true) := by
  intro w
  obtain ⟨hz, hi⟩ := zero_of_info info27
  obtain ⟨n66, hn66⟩ : ∃ n, n = 66 := ⟨66, rfl⟩
  have hsz : ∀ w, (Go.sizeOf 27).run Try.prog w = .ok n66 w := fun w => by rw [hn66]; exact Try.sizeOf27 w
  have hW0 := Wr.new w
  have hS0 : Same w (w.alloc (.cells (wc (.pointer none) zl 0) 27)) := (Same.refl w).alloc _
  have HW0 := Lib.hid hW0
  have HS0 := Lib.hid hS0
  clear hS0 hW0 hn66 hi
  go_enter Try.func9, Try.ntmps9
  go_wp2_with fail
  refine (wcode_at w.heap.size 0 [] _ (by omega) HW0.out (by simp)).mono ?_
  rintro e w1 ⟨rfl, hw1, ho1⟩
  have HW1 := Lib.hid hw1
  have HS1 := Lib.hid (HS0.out.only ho1 (Nat.le_refl _))
  clear hw1 ho1 HW0 HS0 hz hsz
  generalize hbw : w.heap.size = bw at *
  have HBW := Lib.hid (show w.heap.size ≤ bw by omega)
  clear hbw
  go_wp2_with fail
  refine (wcode_at bw 4 _ w1 (by omega) HW1.out (by rw [List.length_append, codeL_len]; decide +kernel)).mono ?_
  rintro e w2 ⟨rfl, hw2, ho2⟩
  have HW2 := Lib.hid hw2
  have HS2 := Lib.hid (HS1.out.only ho2 HBW.out)
  clear hw2 ho2 HW1 HS1
  go_wp2_with fail
  refine (wbits_at bw 5 3 _ w2 (by omega) HW2.out (by decide +kernel)).mono ?_
  rintro e w3 ⟨rfl, hw3, ho3⟩
  rw [aw_bits] at hw3
  have HW3 := Lib.hid hw3
  have HS3 := Lib.hid (HS2.out.only ho3 HBW.out)
  clear hw3 ho3 HW2 HS2
  go_wp2_with fail
  refine (wstring_at bw awL w3 HW3.out (by decide)).mono ?_
  rintro e w4 ⟨rfl, hs4⟩
  rw [aw_bytes]
  have HW4 := Lib.hid (HW3.out.same hs4)
  have HS4 := Lib.hid (HS3.out.trans hs4)
  clear hs4 HW3 HS3
  go_wp2_with fail
  refine (new_at [89, 1] (by decide) w4).mono ?_
  rintro e w5 ⟨rfl, hr5, hs5⟩
  rw [aw_of] at hr5
  have HR5 := Lib.hid hr5
  have HW5 := Lib.hid (HW4.out.same hs5)
  have HS5 := Lib.hid (HS4.out.trans hs5)
  have HBR := Lib.hid (HS4.out.size)
  have HNE := Lib.hid (show bw ≠ w4.heap.size by have := HW4.out.lt; omega)
  clear hr5 hs5 HW4 HS4
  generalize w4.heap.size = br at *
  go_wp2_with fail
  refine (code_at br _ 0 w5 HR5.out).mono ?_
  rintro e w6 ⟨rfl, hr6, ho6⟩
  rw [aw1] at hr6 ⊢
  have HR6 := Lib.hid hr6
  have HW6 := Lib.hid (HW5.out.other ho6 HNE.out HR5.out.noBlock)
  have HS6 := Lib.hid (HS5.out.only ho6 HBR.out)
  clear hr6 ho6 HR5 HW5 HS5
  go_wp2_with fail
  refine (code_at br _ 0 w6 HR6.out).mono ?_
  rintro e w7 ⟨rfl, hr7, ho7⟩
  rw [aw2] at hr7 ⊢
  have HR7 := Lib.hid hr7
  have HW7 := Lib.hid (HW6.out.other ho7 HNE.out HR6.out.noBlock)
  have HS7 := Lib.hid (HS6.out.only ho7 HBR.out)
  clear hr7 ho7 HR6 HW6 HS6
  go_wp2_with fail
  refine (bits_at br 3 _ 0 w7 HR7.out).mono ?_
  rintro e w8 ⟨rfl, hr8, ho8⟩
  rw [aw3] at hr8 ⊢
  have HR8 := Lib.hid hr8
  have HW8 := Lib.hid (HW7.out.other ho8 HNE.out HR7.out.noBlock)
  have HS8 := Lib.hid (HS7.out.only ho8 HBR.out)
  clear hr8 ho8 HR7 HW7 HS7
  go_wp2_with fail
  refine (done_at br _ 0 w8 HR8.out).mono ?_
  rintro e w9 ⟨rfl, hs9⟩
  rw [aw4]
  have HW9 := Lib.hid (HW8.out.same hs9)
  have HS9 := Lib.hid (HS8.out.trans hs9)
  clear hs9 HR8 HW8 HS8 HBR HNE
  go_wp2_with fail
  refine (new_at [0] (by decide) w9).mono ?_
  rintro e w10 ⟨rfl, hr10, hs10⟩
  have HX10 := Lib.hid hr10
  have HW10 := Lib.hid (HW9.out.same hs10)
  have HS10 := Lib.hid (HS9.out.trans hs10)
  have HBX := Lib.hid (HS9.out.size)
  have HNX := Lib.hid (show bw ≠ w9.heap.size by have := HW9.out.lt; omega)
  clear hr10 hs10 HW9 HS9
  generalize w9.heap.size = bx at *
  go_wp2_with fail
  refine (code_at bx _ 0 w10 HX10.out).mono ?_
  rintro e w11 ⟨rfl, hr11, ho11⟩
  rw [aw5] at hr11 ⊢
  have HX11 := Lib.hid hr11
  have HW11 := Lib.hid (HW10.out.other ho11 HNX.out HX10.out.noBlock)
  have HS11 := Lib.hid (HS10.out.only ho11 HBX.out)
  clear hr11 ho11 HX10 HW10 HS10
  go_wp2_with fail
  refine (new_at [97] (by decide) w11).mono ?_
  rintro e w12 ⟨rfl, hr12, hs12⟩
  have HY12 := Lib.hid hr12
  have HW12 := Lib.hid (HW11.out.same hs12)
  have HX12 := Lib.hid (HX11.out.same hs12)
  have HS12 := Lib.hid (HS11.out.trans hs12)
  have HBY := Lib.hid (HS11.out.size)
  have HNY := Lib.hid (show bw ≠ w11.heap.size by have := HW11.out.lt; omega)
  have HNZ := Lib.hid (show bx ≠ w11.heap.size by have := HX11.out.lt; omega)
  clear hr12 hs12 HW11 HS11 HX11
  generalize w11.heap.size = bY at *
  go_wp2_with fail
  refine (bits_at bY 65 _ 0 w12 HY12.out).mono ?_
  rintro e w13 ⟨rfl, hr13, ho13⟩
  rw [aw6] at hr13 ⊢
  have HY13 := Lib.hid hr13
  have HW13 := Lib.hid (HW12.out.other ho13 HNY.out HY12.out.noBlock)
  have HX13 := Lib.hid (HX12.out.other ho13 HNZ.out)
  have HS13 := Lib.hid (HS12.out.only ho13 HBY.out)
  clear hr13 ho13 HY12 HW12 HX12 HS12
  have HLn := Lib.hid (wlen_at bw awL w13 HW13.out)
  rw [show ((awL.length : Nat) : Int) = 9 from rfl] at HLn
  have HEx := Lib.hid (err_at bx _ _ w13 HX13.out)
  have HEy := Lib.hid (err_at bY _ _ w13 HY13.out)
  go_wp2_with fail
  refine HLn.out.mono ?_
  rintro e w13 ⟨rfl, rfl⟩
  go_wp2_with fail
  refine HEx.out.mono ?_
  rintro e w13 ⟨rfl, rfl⟩
  go_wp2_with fail
  refine HEy.out.mono ?_
  rintro e w13 ⟨rfl, rfl⟩
  go_wp2
  go_ret
  exact ⟨rfl, HS13.out⟩
end Go.Proofs.Ytgfbiaidbkjeiaa
