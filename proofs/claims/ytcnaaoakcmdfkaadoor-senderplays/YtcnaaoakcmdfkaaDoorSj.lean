/- Proved: what the sender's New answers, and what it does to memory. Condition: the library's table is as its text lays it; the list of texts lies in memory, and has at most 300 of them. -/
import Derived.Test.YtcnaaoakcmdfkaaDoorSi
namespace Go.Proofs.YtcnaaoakcmdfkaaDoor
open Go.RowKit

/-- What New answers. -/
def NewPost (a c : Int) (L : List (List UInt8)) (w : World) (e : Ending) (w' : World) : Prop :=
  (mayP a c L ∧ ∃ b bm bc, e = .returned (.tuple #[.pointer (some ⟨b, 0, none⟩), .int .i64 0]) ∧ S w' b bm bc (newS a c L) ∧ w.heap.size ≤ b ∧ w.heap.size ≤ bm ∧ w.heap.size ≤ bc ∧ Keep w w') ∨
  (¬ mayP a c L ∧ e = .returned (.tuple #[.pointer none, .int .i64 1]) ∧ Keep w w')
def NwRel (L : List (List UInt8)) (bc : Nat) (W : World) (iv : Value) (wr : World) : Prop :=
  ∃ k : Nat, iv = .int .i64 k ∧ k ≤ L.length ∧ wr.heap[bc]? = some (.cells (kc (ckK L k)) 65 (0, 0)) ∧ (∀ x ∈ L.take k, x.length ≤ 1000) ∧ Only bc W wr
theorem num_iff (n : Int) : numB n = true ↔ 0 ≤ n ∧ n < 4294967296 := by unfold numB; simp
set_option maxRecDepth 100000 in
set_option maxHeartbeats 1000000 in
theorem snew_at (a c : Int) (v : Value) (L : List (List UInt8)) (w : World) (ht : Tab w) (hL : TexS w v L) (hlen : L.length ≤ 300) : Calls Tryd.prog 11 #[.int .i64 a, .int .i64 c, v] w (NewPost a c L w) := by
  have HA := Lib.hid (isnum_at a w)
  have HC := Lib.hid (isnum_at c w)
  obtain ⟨va, vcap, rfl, _, _⟩ := hL.form
  cases ha : numB a
  · have hno : ¬ mayP a c L := fun h => by rw [(num_iff a).2 h.2.1] at ha; cases ha
    rw [ha] at HA
    clear ha hL
    generalize L.length = N at *
    go_enter Tryd.func11, Tryd.ntmps11
    go_wp2_with fail
    refine HA.out.mono ?_
    rintro e w1 ⟨rfl, rfl⟩
    go_wp2
    go_ret2
    exact .inr ⟨hno, rfl, Keep.refl _⟩
  cases hc : numB c
  · have hno : ¬ mayP a c L := fun h => by rw [(num_iff c).2 h.2.2.1] at hc; cases hc
    rw [ha] at HA
    rw [hc] at HC
    clear ha hc hL
    generalize L.length = N at *
    go_enter Tryd.func11, Tryd.ntmps11
    go_wp2_with fail
    refine HA.out.mono ?_
    rintro e w1 ⟨rfl, rfl⟩
    go_wp2_with fail
    refine HC.out.mono ?_
    rintro e w1 ⟨rfl, rfl⟩
    go_wp2
    go_ret2
    exact .inr ⟨hno, rfl, Keep.refl _⟩
  have HAC := Lib.hid (And.intro ((num_iff a).1 ha) ((num_iff c).1 hc))
  rw [ha] at HA
  rw [hc] at HC
  clear ha hc
  by_cases hn : 1 ≤ L.length ∧ L.length ≤ 256
  rotate_left
  · have hno : ¬ mayP a c L := fun h => hn ⟨h.2.2.2.1, h.2.2.2.2⟩
    have HB := Lib.hid (new_bad L.length w (by omega))
    clear hn hL
    generalize L.length = N at *
    go_enter Tryd.func11, Tryd.ntmps11
    go_wp2_with fail
    refine HA.out.mono ?_
    rintro e w1 ⟨rfl, rfl⟩
    go_wp2_with fail
    refine HC.out.mono ?_
    rintro e w1 ⟨rfl, rfl⟩
    go_wp2_with fail
    refine HB.out.mono ?_
    rintro e w2 ⟨rfl, rfl⟩
    go_wp2
    go_ret2
    exact .inr ⟨hno, rfl, Keep.refl _⟩
  have HNew := Lib.hid (new_at L.length hn.1 hn.2 w ht)
  have HT := Lib.hid hL
  have HMk := Lib.hid (fun w1 => make_chunks L.length (by omega) w1)
  have HN12 := Lib.hid hn
  obtain ⟨N, hN⟩ : ∃ N, L.length = N := ⟨_, rfl⟩
  have HN := Lib.hid hN
  have HZ := Lib.hid (ckK_zero L)
  rw [hN] at hlen HNew HMk hn HZ ⊢
  clear hL hN
  go_enter Tryd.func11, Tryd.ntmps11
  go_wp2_with fail
  refine HA.out.mono ?_
  rintro e w1 ⟨rfl, rfl⟩
  go_wp2_with fail
  refine HC.out.mono ?_
  rintro e w1 ⟨rfl, rfl⟩
  go_wp2_with fail
  refine HNew.out.mono ?_
  rintro e w2 ⟨bm, rfl, hbm, m2, k2⟩
  have HM2 := Lib.hid m2
  have HK2 := Lib.hid k2
  have hmk := HMk.out w2
  clear m2 k2 HNew HA HC
  go_wp2_with fail
  have HB3 := Lib.hid (heap_alloc_last w2 (.cells (kc (List.replicate N zeroC)) 65))
  have HK3 := Lib.hid (show Keep w2 (w2.alloc (.cells (kc (List.replicate N zeroC)) 65)) from (Keep.refl w2).alloc _)
  have hsz3 : (w2.alloc (.cells (kc (List.replicate N zeroC)) 65)).heap.size = w2.heap.size + 1 := by simp
  have HSZ := Lib.hid hsz3
  generalize hw3 : w2.alloc (.cells (kc (List.replicate N zeroC)) 65) = w3 at *
  clear hw3 hsz3 hmk
  go_loopw [35] (fun iv wr => NwRel L w2.heap.size w3 iv wr) (fun i _ => 300 - (intOf i).toNat)
  case atStart => exact ⟨0, rfl, Nat.zero_le _, by rw [HZ.out]; exact HB3.out, by simp, Only.refl _ _⟩
  case round =>
    obtain ⟨k, rfl, hk, hB, hall, hO⟩ := hrel
    rw [HN.out] at hk
    have HB := Lib.hid hB
    have HALL := Lib.hid hall
    have HO := Lib.hid hO
    have HK := Lib.hid (Only.made (HK2.out.trans HK3.out) hO HK2.out.size)
    clear hB hall hO
    by_cases hlt : k < N
    · obtain ⟨t, hkt⟩ : ∃ t, L[k]? = some t := ⟨_, List.getElem?_eq_getElem (by rw [HN.out]; exact hlt)⟩
      have hc := HT.out.keep HK.out
      obtain ⟨g, o, cap, hv, _, _, _⟩ := hc.ptr k (by rw [HN.out]; exact hlt)
      rw [HN.out] at hv
      injection hv with e1 e2 e3
      subst e1 e3
      have c7 := TexS.text hc k t hkt
      clear hc e2
      by_cases hlong : t.length ≤ 1000
      · have hcell : wr.cell? ⟨w2.heap.size, k * 3, none⟩ = some (.string ⟨#[]⟩) := by
          refine cell_obj HB.out ?_
          unfold kc
          rw [List.getElem?_toArray, show k * 3 = k * 3 + 0 from rfl, flat_get ke ke_len (ckK L k) k zeroC (ckK_at L k (by rw [HN.out]; exact hlt)) 0 (by omega)]
          rfl
        have hfree : wr.frozen? ⟨w2.heap.size, k * 3, none⟩ = false := by simp [World.frozen?, HB.out]
        have hset := block_set HB.out (k * 3 + 0) (.string ⟨t.toArray⟩)
        rw [kc_put (ckK L k) k 0 zeroC ⟨t, 0, 0⟩ _ (ckK_at L k (by rw [HN.out]; exact hlt)) (by omega) rfl, ckK_next L k t hkt] at hset
        have HS := Lib.hid hset
        have HO2 := Lib.hid (HO.out.trans (Only.setCell w2.heap.size (k * 3) wr (.string ⟨t.toArray⟩)))
        have HALL2 := Lib.hid (all_of_next HALL.out hkt hlong)
        clear hset
        have hgt : ¬ ((t.length : Int) > 1000) := by omega
        clear hlong hkt
        go_wp2
        go_roundw
        case rel => exact ⟨k + 1, by go_num, by rw [HN.out]; omega, HS.out, HALL2.out, HO2.out⟩
        case measure => simp [intOf]; omega
      · have hno : ¬ mayP a c L := fun h => hlong (h.1 t (List.mem_of_getElem? hkt))
        have hgt : (t.length : Int) > 1000 := by omega
        clear hlong hkt
        go_wp2
        go_ret2
        exact .inr ⟨hno, rfl, HK.out⟩
    · obtain rfl : k = N := by omega
      have HBS := Lib.hid (fun w => build_sending bm w2.heap.size k a c w)
      have HBO := Lib.hid (fun w => build_sender #[.pointer (some ⟨bm, 0, none⟩), .int .i64 a, .int .i64 c, .slice (some ⟨w2.heap.size, 0, none⟩) k k, .int .i64 0, .bool false] rfl w)
      have hm := HM2.out.lt
      have hss := HO.out.size
      have hK4 : Keep wr (wr.alloc (.cells #[.pointer (some ⟨bm, 0, none⟩), .int .i64 a, .int .i64 c, .slice (some ⟨w2.heap.size, 0, none⟩) k k, .int .i64 0, .bool false] 69)) := (Keep.refl wr).alloc _
      have hblk := heap_alloc_last wr (.cells #[.pointer (some ⟨bm, 0, none⟩), .int .i64 a, .int .i64 c, .slice (some ⟨w2.heap.size, 0, none⟩) k k, .int .i64 0, .bool false] 69)
      have hmay : mayP a c L := ⟨fun x hx => HALL.out x (by rw [List.take_of_length_le (by rw [HN.out]; exact Nat.le_refl _)]; exact hx), HAC.out.1, HAC.out.2, HN12.out⟩
      have hch : (newS a c L).ch = ckK L k := by rw [← HN.out, ckK_full]; rfl
      have hlen2 : (newS a c L).ch.length = k := by rw [show (newS a c L).ch = ckOf L from rfl]; unfold ckOf; rw [List.length_map, HN.out]
      have hS : S (wr.alloc (.cells #[.pointer (some ⟨bm, 0, none⟩), .int .i64 a, .int .i64 c, .slice (some ⟨w2.heap.size, 0, none⟩) k k, .int .i64 0, .bool false] 69)) wr.heap.size bm w2.heap.size (newS a c L) := by
        refine ⟨?_, ?_, ?_, by have := HSZ.out; omega, by omega, by have := HSZ.out; omega, by have := HSZ.out; omega, by omega, Good.new a c L (by rw [HN.out]; exact hn.1) (by rw [HN.out]; exact hn.2)⟩
        · rw [hblk]
          unfold sc
          rw [hlen2]
          rfl
        · rw [hch]
          exact hK4.obj HB.out
        · have hm3 := (HM2.out.keep HK3.out).only HO.out (by omega) (by omega)
          have hl : (newS a c L).l = List.replicate k false := by rw [← HN.out]; rfl
          rw [hl]
          exact hm3.keep hK4
      have HS := Lib.hid hS
      have HK5 := Lib.hid (HK.out.trans hK4)
      have hb1 := HK.out.size
      have hb2 := HK2.out.size
      clear hS hblk hK4 hch hlen2 hm hss
      go_wp2_with (first | ((with_reducible refine at_build (t := 67) [(0, .pointer (some ⟨bm, 0, none⟩)), (1, .int .i64 a), (2, .int .i64 c), (3, .slice (some ⟨w2.heap.size, 0, none⟩) k k)] ?_ _ ?_ ?_); rfl; exact HBS.out _) | ((with_reducible refine at_build (t := 69) [(0, .agg #[.pointer (some ⟨bm, 0, none⟩), .int .i64 a, .int .i64 c, .slice (some ⟨w2.heap.size, 0, none⟩) k k, .int .i64 0, .bool false])] ?_ _ ?_ ?_); rfl; exact HBO.out _))
      go_ret2
      exact .inl ⟨hmay, _, _, _, rfl, HS.out, hb1, hbm, hb2, HK5.out⟩
end Go.Proofs.YtcnaaoakcmdfkaaDoor
