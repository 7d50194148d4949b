/- Proved: what Mark of digest and of the document answers. No condition. -/
import Derived.Test.YtfikdeobejhblaaDa
import Derived.Deep.RegionHeldLaw
import Derived.Deep.RegionHeld3
import Derived.Laws.IdiomStrings
namespace Go.Proofs.Ytfikdeobejhblaa
open Go.RowKit

theorem bytesG (p : Px) (hp : L16 p) : Gives Try.prog 49 #[.agg (pc p)] (.string ⟨(bytesOf p).toArray⟩) := by
  unfold bytesOf
  by_cases h : rightP p
  · rw [if_pos h]
    exact bytes_ok p hp h
  · rw [if_neg h]
    exact bytes_no p hp h
/-- A text's bytes as a list of one's own. -/
theorem conv_make (l : List UInt8) (hl : l.length ≤ 1000000) (w : World) : ∃ (cap : Nat) (w' : World), (convert 9 87 (.string ⟨l.toArray⟩)).run Try.prog w = .ok (.slice (some ⟨w.heap.size, 0, none⟩) l.length cap) w' ∧ Cells bl w' (.slice (some ⟨w.heap.size, 0, none⟩) l.length cap) l ∧ Keep w w' := by
  have h := run_bytes_of_string (P := Try.prog) w 9 87 5 ⟨l.toArray⟩ Try.underlying9 Try.underlying87 Try.underlying5
  have hsz : (⟨l.toArray⟩ : ByteArray).size = l.length := by simp [ByteArray.size]
  rw [hsz] at h
  refine ⟨_, _, h, .inr ⟨_, _, _, rfl, ?_, ?_, ?_, ?_⟩, ((Keep.refl w).drew).alloc _⟩
  · exact grownCap_ge w l.length 0 5
  · exact grownCap_le_maxLen w l.length 0 5 (by unfold maxLen; omega)
  · simp
  · intro j u hj
    rw [flat_bl] at hj
    have hjl : j < l.length := by simpa using (List.getElem?_eq_some_iff.1 hj).1
    rw [Nat.zero_add, show w.heap.size = w.drew.heap.size from rfl, cell_of_row _ _ _ _ _ _ (heap_alloc_last w.drew _)]
    unfold bytesRow
    rw [Array.getElem?_append_left (by simpa using hjl)]
    simp only [Array.getElem?_map, List.getElem?_toArray]
    rw [List.getElem?_map] at hj
    exact hj
theorem conv_fn (l : List UInt8) (hl : l.length ≤ 1000000) : ∃ (cap : World → Nat) (nw : World → World), (∀ w, (convert 9 87 (.string ⟨l.toArray⟩)).run Try.prog w = .ok (.slice (some ⟨w.heap.size, 0, none⟩) l.length (cap w)) (nw w)) ∧ (∀ w, Cells bl (nw w) (.slice (some ⟨w.heap.size, 0, none⟩) l.length (cap w)) l) ∧ ∀ w, Keep w (nw w) := by
  refine ⟨fun w => Classical.choose (conv_make l hl w), fun w => Classical.choose (Classical.choose_spec (conv_make l hl w)), fun w => ?_, fun w => ?_, fun w => ?_⟩
  · exact (Classical.choose_spec (Classical.choose_spec (conv_make l hl w))).1
  · exact (Classical.choose_spec (Classical.choose_spec (conv_make l hl w))).2.1
  · exact (Classical.choose_spec (Classical.choose_spec (conv_make l hl w))).2.2

theorem bytesOf_len (p : Px) (hp : L16 p) : (bytesOf p).length ≤ 17 := by
  unfold bytesOf
  split
  · unfold bytesL
    rw [List.length_cons, List.length_take, hp]
    omega
  · simp
theorem Cells.byteAt {w : World} {g n cap : Nat} {l : List UInt8} (h : Cells bl w (.slice (some ⟨g, 0, none⟩) n cap) l) (hn : l.length = n) (j : Nat) (c : UInt8) (hx : l[j]? = some c) : w.cell? ⟨g, j, none⟩ = some (.int .u8 (c.toNat : Nat)) := by
  rw [← hn] at h
  have := h.cell (k := 1) (fun _ => rfl) j c hx 0 (by omega) (bv c) rfl
  simpa [bv] using this
def MkRel9 (W : World) (l : List UInt8) (x i : Value) (wr : World) : Prop := ∃ k : Nat, i = .int .i64 k ∧ k ≤ l.length ∧ x = .int .u64 (markL (l.take k)) ∧ Keep W wr
set_option maxRecDepth 100000 in
set_option maxHeartbeats 600000 in
theorem dmark (r : Rt) : GivesK Try.prog 15 #[.agg (rc r)] (.int .u64 (markOf r)) := by
  intro w
  have hA := RAt.new w r
  have hS : Keep w (w.alloc (.cells (rc r) 37)) := (Keep.refl w).alloc _
  obtain ⟨n, hn⟩ : ∃ n, n = 18 := ⟨18, rfl⟩
  have hsz : ∀ w, (Go.sizeOf 34).run Try.prog w = .ok n w := fun w => by rw [hn]; exact Try.sizeOf34 w
  have hn0 : ¬ n = 0 := by omega
  have HSk := Lib.hid (fun (w' : World) (k : Keep (w.alloc (.cells (rc r) 37)) w') => (show w'.cell? ⟨w.heap.size, 18, none⟩ = some (.int .i64 r.metric) ∧ w'.cell? ⟨w.heap.size, 19, none⟩ = some (.int .u32 r.seq) ∧ (loadCellsFrom ⟨w.heap.size, 0, none⟩ 0 n #[]).run Try.prog w' = .ok (pc r.to) w' from ⟨(hA.keep k).metric, (hA.keep k).seq, (hA.keep k).to hn⟩))
  have HB := Lib.hid (bytesG r.to r.ok).keep
  have H1 := Lib.hid (deight (U r.metric)).keep
  have H2 := Lib.hid (deight (U r.seq)).keep
  have HS := Lib.hid hS
  clear hA hS hn
  unfold markOf markT
  have hm1 : IntKind.u64.wrap r.metric = U r.metric := rfl
  have hm2 : IntKind.u64.wrap r.seq = U r.seq := rfl
  have l1 := eightL_len (U r.metric)
  have l2 := eightL_len (U r.seq)
  have l0 := bytesOf_len r.to r.ok
  generalize eightL (U r.metric) = E1 at *
  generalize eightL (U r.seq) = E2 at *
  generalize bytesOf r.to = B at *
  generalize U r.metric = m1 at *
  generalize U r.seq = m2 at *
  generalize r.metric = M at *
  generalize r.seq = Q at *
  generalize rc r = R at *
  obtain ⟨S0, hS0⟩ : ∃ S : ByteArray, S = ⟨B.toArray⟩ := ⟨_, rfl⟩
  obtain ⟨S1, hS1⟩ : ∃ S : ByteArray, S = ⟨E1.toArray⟩ := ⟨_, rfl⟩
  obtain ⟨S2, hS2⟩ : ∃ S : ByteArray, S = ⟨E2.toArray⟩ := ⟨_, rfl⟩
  have z0 : S0.size ≤ 17 := by rw [hS0]; simpa [ByteArray.size] using l0
  have z1 : S1.size = 8 := by rw [hS1]; simpa [ByteArray.size] using l1
  have z2 : S2.size = 8 := by rw [hS2]; simpa [ByteArray.size] using l2
  have c1 : ¬ 9223372036854775807 < S0.size + S1.size := by omega
  have c2 : ¬ 9223372036854775807 < S0.size + S1.size + S2.size := by omega
  rw [← hS0] at HB
  rw [← hS1] at H1
  rw [← hS2] at H2
  have HS0 := Lib.hid hS0
  have HS1 := Lib.hid hS1
  have HS2 := Lib.hid hS2
  obtain ⟨N, hN⟩ : ∃ N, (B ++ (E1 ++ E2)).length = N := ⟨_, rfl⟩
  have HNB := Lib.hid (show N ≤ 1000000 by rw [← hN]; simp; omega)
  have hSS : S0 ++ S1 ++ S2 = ⟨(B ++ (E1 ++ E2)).toArray⟩ := by rw [hS0, hS1, hS2, app_list, app_list, List.append_assoc]
  obtain ⟨cap, nw, hcv, hcc, hck⟩ := conv_fn (B ++ (E1 ++ E2)) (by rw [hN]; exact HNB.out)
  rw [← hSS] at hcv
  rw [hN] at hcv hcc
  have HCC := Lib.hid hcc
  have HCK := Lib.hid hck
  have HNL := Lib.hid hN
  have HZ := Lib.hid (And.intro z0 (And.intro z1 z2))
  clear hN hSS hcc hck hS0 hS1 hS2 l0 l1 l2 z0 z1 z2
  have hk := (Keep.refl (w.alloc (.cells R 37))).drew
  go_enter Try.func15, Try.ntmps15
  go_wp2
  go_region_held_law (fun w' => w'.cell? ⟨w.heap.size, 18, none⟩ = some (.int .i64 M) ∧ w'.cell? ⟨w.heap.size, 19, none⟩ = some (.int .u32 Q) ∧ (loadCellsFrom ⟨w.heap.size, 0, none⟩ 0 n #[]).run Try.prog w' = .ok (pc r.to) w') (first | exact HSk.out _ hk | exact HSk.out _ (hk.trans (HCK.out _))) (first | (go_at_call 49; refine (HB.out _).mono ?_; rintro e w1 ⟨rfl, b1⟩; replace hk := hk.trans b1; clear b1) | (have later := first1; clear later; go_at_call 50; refine (H2.out _).mono ?_; rintro e w1 ⟨rfl, b1⟩; replace hk := hk.trans b1; clear b1) | (go_at_call 50; refine (H1.out _).mono ?_; rintro e w1 ⟨rfl, b1⟩; replace hk := hk.trans b1; clear b1; have first1 := True.intro))
  have HC1 := Lib.hid (HCC.out w1)
  have HK1 := Lib.hid (HS.out.trans (hk.trans (HCK.out w1)))
  generalize w1.heap.size = g at *
  generalize cap w1 = cp at *
  generalize nw w1 = w2 at *
  have HMX := Lib.hid (fun x => (dmix x).keep)
  clear hk hcv HB H1 H2 HSk HCC HCK
  go_wp2
  go_loopw [3, 21] (fun x i wr => MkRel9 w2 (B ++ (E1 ++ E2)) x i wr) (fun _ i _ => N - (intOf i).toNat)
  case atStart => exact ⟨0, rfl, Nat.zero_le _, rfl, Keep.refl _⟩
  case round =>
    obtain ⟨k, rfl, hkN, rfl, hkp⟩ := hrel
    rw [HNL.out] at hkN
    have HKP := Lib.hid hkp
    clear hkp
    by_cases hlt : k < N
    · obtain ⟨c, hc⟩ : ∃ c, (B ++ (E1 ++ E2))[k]? = some c := ⟨_, List.getElem?_eq_getElem (by rw [HNL.out]; exact hlt)⟩
      have hcl := (HC1.out.keep HKP.out).byteAt HNL.out k c hc
      have hcw : IntKind.u64.wrap (c.toNat : Int) = (c.toNat : Int) := IntWalk.u64_in _ (by have := c.toNat_lt; omega)
      have HT := Lib.hid (show markL ((B ++ (E1 ++ E2)).take (k + 1)) = mixZ (bits .xor .u64 (markL ((B ++ (E1 ++ E2)).take k)) (c.toNat : Nat)) by
        rw [List.take_add_one, hc, Option.toList_some, markL_snoc]
        rfl)
      have HMK := Lib.hid (HMX.out (bits .xor .u64 (markL ((B ++ (E1 ++ E2)).take k)) (c.toNat : Nat)))
      rw [← HT.out] at HMK
      clear hc HMX
      generalize markL ((B ++ (E1 ++ E2)).take k) = x at *
      have hcn := c.toNat_lt
      have hNB := HNB.out
      generalize c.toNat = cn at *
      go_wp2_with fail
      refine (HMK.out wr).mono ?_
      rintro e w9 ⟨rfl, b9⟩
      have HK9 := Lib.hid (HKP.out.trans b9)
      clear b9 hcl hcw HT
      go_wp2
      go_roundw
      case rel => exact ⟨k + 1, by go_num, by rw [HNL.out]; omega, rfl, HK9.out⟩
      case measure => simp [intOf]; omega
    · obtain rfl : k = N := by omega
      rw [List.take_of_length_le (by rw [HNL.out]; exact Nat.le_refl _)]
      go_wp2
      go_ret
      exact ⟨rfl, HK1.out.trans HKP.out⟩

theorem index_text (l : List UInt8) (k : Nat) (c : UInt8) (h : l[k]? = some c) (w : World) : (Instr.index 9 (.string ⟨l.toArray⟩) (.int .i64 k)).run Try.prog w = .ok (.int .u8 (c.toNat : Nat)) w := by
  obtain ⟨hi, rfl⟩ := List.getElem?_eq_some_iff.1 h
  go_simp
  rfl
theorem qbytesG (p : Px) (hp : L16 p) (h : rightP p) : GivesK Try.prog 53 #[.agg (pc p)] (.string ⟨(bytesOf p).toArray⟩) := by
  unfold bytesOf
  rw [if_pos h]
  exact qbytes p hp h
set_option maxRecDepth 100000 in
set_option maxHeartbeats 1000000 in
theorem qmark (r : Rt) : GivesK Try.prog 16 #[.agg (rc r)] (.int .u64 (markOf r)) := by
  intro w
  have hA := RAt.new w r
  have hS : Keep w (w.alloc (.cells (rc r) 37)) := (Keep.refl w).alloc _
  obtain ⟨n, hn⟩ : ∃ n, n = 18 := ⟨18, rfl⟩
  have hsz : ∀ w, (Go.sizeOf 34).run Try.prog w = .ok n w := fun w => by rw [hn]; exact Try.sizeOf34 w
  have hn0 : ¬ n = 0 := by omega
  have HSk := Lib.hid (fun (w' : World) (k : Keep (w.alloc (.cells (rc r) 37)) w') => (show w'.cell? ⟨w.heap.size, 18, none⟩ = some (.int .i64 r.metric) ∧ w'.cell? ⟨w.heap.size, 19, none⟩ = some (.int .u32 r.seq) from ⟨(hA.keep k).metric, (hA.keep k).seq⟩))
  have h1 := hA.to hn
  have HTo := Lib.hid (fun (w' : World) (k : Keep (w.alloc (.cells (rc r) 37)) w') => (hA.keep k).to hn)
  have HR := Lib.hid (qright r.to r.ok).keep
  have HB := Lib.hid (qbytesG r.to r.ok)
  have H1 := Lib.hid (qeight (U r.metric))
  have H2 := Lib.hid (qeight (U r.seq))
  have HMX := Lib.hid (fun x => (qmix x).keep)
  have HS := Lib.hid hS
  have hm1 : IntKind.u64.wrap r.metric = U r.metric := rfl
  have hm2 : IntKind.u64.wrap r.seq = U r.seq := rfl
  have l1 := eightL_len (U r.metric)
  have l2 := eightL_len (U r.seq)
  have l0 := bytesOf_len r.to r.ok
  have HBN := Lib.hid (fun h : ¬ rightP r.to => show bytesOf r.to = [] by unfold bytesOf; rw [if_neg h])
  clear hA hS hn
  unfold markOf markT
  generalize eightL (U r.metric) = E1 at *
  generalize eightL (U r.seq) = E2 at *
  generalize bytesOf r.to = B at *
  generalize U r.metric = m1 at *
  generalize U r.seq = m2 at *
  generalize r.metric = M at *
  generalize r.seq = Q at *
  generalize rc r = R at *
  obtain ⟨S0, hS0⟩ : ∃ S : ByteArray, S = ⟨B.toArray⟩ := ⟨_, rfl⟩
  obtain ⟨S1, hS1⟩ : ∃ S : ByteArray, S = ⟨E1.toArray⟩ := ⟨_, rfl⟩
  obtain ⟨S2, hS2⟩ : ∃ S : ByteArray, S = ⟨E2.toArray⟩ := ⟨_, rfl⟩
  have z0 : S0.size ≤ 17 := by rw [hS0]; simpa [ByteArray.size] using l0
  have z1 : S1.size = 8 := by rw [hS1]; simpa [ByteArray.size] using l1
  have z2 : S2.size = 8 := by rw [hS2]; simpa [ByteArray.size] using l2
  have c1 : ¬ 9223372036854775807 < S1.size + S2.size := by omega
  have c2 : ¬ 9223372036854775807 < S0.size + (S1.size + S2.size) := by omega
  rw [← hS0] at HB
  rw [← hS1] at H1
  rw [← hS2] at H2
  obtain ⟨N, hN⟩ : ∃ N, (B ++ (E1 ++ E2)).length = N := ⟨_, rfl⟩
  have hSS : S0 ++ (S1 ++ S2) = ⟨(B ++ (E1 ++ E2)).toArray⟩ := by rw [hS0, hS1, hS2, app_list, app_list]
  have HNB : N ≤ 1000 := by rw [← hN]; simp; omega
  have HSS := Lib.hid hSS
  have HNL := Lib.hid hN
  have HS0 := Lib.hid hS0
  clear hN hSS hS0 hS1 hS2 l0 l1 l2 z0 z1 z2
  have hk := (Keep.refl (w.alloc (.cells R 37)))
  by_cases hr : rightP r.to
  · rw [decide_eq_true hr] at HR
    have HB := Lib.hid (HB.out hr)
    clear hr HBN
    go_enter Try.func16, Try.ntmps16
    go_wp2_with fail
    refine (HR.out _).mono ?_
    rintro e w1 ⟨rfl, b1⟩
    have hk1 := hk.trans b1
    have h2 := HTo.out _ hk1
    clear hk b1 h1
    go_wp2_with fail
    refine (HB.out _).mono ?_
    rintro e w2 ⟨rfl, b2⟩
    have hk := (hk1.trans b2).drew
    clear hk1 b2 h2
    go_wp2
    go_region_held_law (fun w' => w'.cell? ⟨w.heap.size, 18, none⟩ = some (.int .i64 M) ∧ w'.cell? ⟨w.heap.size, 19, none⟩ = some (.int .u32 Q)) (exact HSk.out _ hk) (first | (have later := first1; clear later; go_at_call 54; refine (H2.out _).mono ?_; rintro e w1 ⟨rfl, b1⟩; replace hk := hk.trans b1; clear b1) | (go_at_call 54; refine (H1.out _).mono ?_; rintro e w1 ⟨rfl, b1⟩; replace hk := hk.trans b1; clear b1; have first1 := True.intro))
    have HK1 := Lib.hid (HS.out.trans hk)
    clear hk HB H1 H2 HSk HR
    rw [HSS.out]
    go_wp2
    go_loopw [4, 5] (fun x i wr => MkRel9 w1 (B ++ (E1 ++ E2)) x i wr) (fun _ i _ => N - (intOf i).toNat)
    case atStart => exact ⟨0, rfl, Nat.zero_le _, rfl, Keep.refl _⟩
    case round =>
      obtain ⟨k, rfl, hkN, rfl, hkp⟩ := hrel
      rw [HNL.out] at hkN
      have HKP := Lib.hid hkp
      clear hkp
      have hSz : (⟨(B ++ (E1 ++ E2)).toArray⟩ : ByteArray).size = N := by rw [← HNL.out]; simp [ByteArray.size]
      by_cases hlt : k < N
      · obtain ⟨c, hc⟩ : ∃ c, (B ++ (E1 ++ E2))[k]? = some c := ⟨_, List.getElem?_eq_getElem (by rw [HNL.out]; exact hlt)⟩
        have hcw : IntKind.u64.wrap (c.toNat : Int) = (c.toNat : Int) := IntWalk.u64_in _ (by have := c.toNat_lt; omega)
        have hix := index_text (B ++ (E1 ++ E2)) k c hc
        have HT := Lib.hid (show markL ((B ++ (E1 ++ E2)).take (k + 1)) = mixZ (bits .xor .u64 (markL ((B ++ (E1 ++ E2)).take k)) (c.toNat : Nat)) by
          rw [List.take_add_one, hc, Option.toList_some, markL_snoc]
          rfl)
        have HMK := Lib.hid (HMX.out (bits .xor .u64 (markL ((B ++ (E1 ++ E2)).take k)) (c.toNat : Nat)))
        rw [← HT.out] at HMK
        clear hc HMX
        generalize markL ((B ++ (E1 ++ E2)).take k) = x at *
        have hcn := c.toNat_lt
        generalize c.toNat = cn at *
        generalize (⟨(B ++ (E1 ++ E2)).toArray⟩ : ByteArray) = SS at *
        go_wp2_with fail
        refine (HMK.out wr).mono ?_
        rintro e w9 ⟨rfl, b9⟩
        have HK9 := Lib.hid (HKP.out.trans b9)
        clear b9 hix hcw HT
        go_wp2
        go_roundw
        case rel => exact ⟨k + 1, by go_num, by rw [HNL.out]; omega, rfl, HK9.out⟩
        case measure => simp [intOf]; omega
      · obtain rfl : k = N := by omega
        rw [List.take_of_length_le (by rw [HNL.out]; exact Nat.le_refl _)]
        generalize (⟨(B ++ (E1 ++ E2)).toArray⟩ : ByteArray) = SS at *
        go_wp2
        go_ret
        exact ⟨rfl, HK1.out.trans HKP.out⟩
  · rw [decide_eq_false hr] at HR
    have hS0e : S0 = ⟨#[]⟩ := by rw [HS0.out, HBN.out hr]
    clear hr HBN HB HS0
    subst hS0e
    go_enter Try.func16, Try.ntmps16
    go_wp2_with fail
    refine (HR.out _).mono ?_
    rintro e w1 ⟨rfl, b1⟩
    have hk := (hk.trans b1).drew
    clear b1 h1
    go_wp2
    go_region_held_law (fun w' => w'.cell? ⟨w.heap.size, 18, none⟩ = some (.int .i64 M) ∧ w'.cell? ⟨w.heap.size, 19, none⟩ = some (.int .u32 Q)) (exact HSk.out _ hk) (first | (have later := first1; clear later; go_at_call 54; refine (H2.out _).mono ?_; rintro e w1 ⟨rfl, b1⟩; replace hk := hk.trans b1; clear b1) | (go_at_call 54; refine (H1.out _).mono ?_; rintro e w1 ⟨rfl, b1⟩; replace hk := hk.trans b1; clear b1; have first1 := True.intro))
    have HK1 := Lib.hid (HS.out.trans hk)
    clear hk H1 H2 HSk HR
    rw [HSS.out]
    go_wp2
    go_loopw [4, 5] (fun x i wr => MkRel9 w1 (B ++ (E1 ++ E2)) x i wr) (fun _ i _ => N - (intOf i).toNat)
    case atStart => exact ⟨0, rfl, Nat.zero_le _, rfl, Keep.refl _⟩
    case round =>
      obtain ⟨k, rfl, hkN, rfl, hkp⟩ := hrel
      rw [HNL.out] at hkN
      have HKP := Lib.hid hkp
      clear hkp
      have hSz : (⟨(B ++ (E1 ++ E2)).toArray⟩ : ByteArray).size = N := by rw [← HNL.out]; simp [ByteArray.size]
      by_cases hlt : k < N
      · obtain ⟨c, hc⟩ : ∃ c, (B ++ (E1 ++ E2))[k]? = some c := ⟨_, List.getElem?_eq_getElem (by rw [HNL.out]; exact hlt)⟩
        have hcw : IntKind.u64.wrap (c.toNat : Int) = (c.toNat : Int) := IntWalk.u64_in _ (by have := c.toNat_lt; omega)
        have hix := index_text (B ++ (E1 ++ E2)) k c hc
        have HT := Lib.hid (show markL ((B ++ (E1 ++ E2)).take (k + 1)) = mixZ (bits .xor .u64 (markL ((B ++ (E1 ++ E2)).take k)) (c.toNat : Nat)) by
          rw [List.take_add_one, hc, Option.toList_some, markL_snoc]
          rfl)
        have HMK := Lib.hid (HMX.out (bits .xor .u64 (markL ((B ++ (E1 ++ E2)).take k)) (c.toNat : Nat)))
        rw [← HT.out] at HMK
        clear hc HMX
        generalize markL ((B ++ (E1 ++ E2)).take k) = x at *
        have hcn := c.toNat_lt
        generalize c.toNat = cn at *
        generalize (⟨(B ++ (E1 ++ E2)).toArray⟩ : ByteArray) = SS at *
        go_wp2_with fail
        refine (HMK.out wr).mono ?_
        rintro e w9 ⟨rfl, b9⟩
        have HK9 := Lib.hid (HKP.out.trans b9)
        clear b9 hix hcw HT
        go_wp2
        go_roundw
        case rel => exact ⟨k + 1, by go_num, by rw [HNL.out]; omega, rfl, HK9.out⟩
        case measure => simp [intOf]; omega
      · obtain rfl : k = N := by omega
        rw [List.take_of_length_le (by rw [HNL.out]; exact Nat.le_refl _)]
        generalize (⟨(B ++ (E1 ++ E2)).toArray⟩ : ByteArray) = SS at *
        go_wp2
        go_ret
        exact ⟨rfl, HK1.out.trans HKP.out⟩
end Go.Proofs.Ytfikdeobejhblaa
