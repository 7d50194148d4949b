/- Proved: what the law's four answers; the few tables of its first line. No condition. -/
import Derived.Test.YtgocmolebanflaaX2
import Derived.Laws.IdiomStrings
namespace Go.Proofs.Ytgocmolebanflaa
open Go.RowKit

theorem conv_bytes {w : World} {b : Nat} {t : TypeId} {fz : Nat × Nat} (L : List UInt8) (h : w.heap[b]? = some (.cells (ac L) t fz)) (n : Nat) (hn : n ≤ L.length) (cap : Nat) : (convert 84 9 (.slice (some ⟨b, 0, none⟩) n cap)).run Try.prog w = .ok (.string ⟨(L.take n).toArray⟩) w := by
  have := run_convert_bytes_back (P := Try.prog) w 84 9 5 ⟨b, 0, none⟩ cap (L.take n) Try.underlying84 Try.underlying5 Try.underlying9 (by
    intro j hj
    have hadd : (⟨b, 0, none⟩ : Addr).add j = ⟨b, j, none⟩ := by unfold Addr.add; split <;> simp_all
    rw [hadd]
    have hj2 : j < L.length := by simp at hj; omega
    rw [cell_obj h (ac_get L j hj2)]
    simp)
  rwa [List.length_take, Nat.min_eq_left hn] at this

/-- The prefix of four bytes, and of eight bits. -/
def fourP (a : Nat) : Px := ⟨false, cutL (padL [UInt8.ofNat a, 0, 0, 0]) 8, 8⟩
theorem fourP_len (a : Nat) : (fourP a).addr.length = 16 := by
  show (cutL (padL [UInt8.ofNat a, 0, 0, 0]) 8).length = 16
  exact cutL_len _ _
theorem fourP_make (a : Nat) : makeP false [UInt8.ofNat a, 0, 0, 0] 8 = some (fourP a) := by
  unfold makeP
  rw [if_pos ⟨rfl, by decide⟩]
  rfl
theorem fourP_right (a : Nat) : rightP (fourP a) := by
  unfold fourP
  exact ⟨show (0 : Int) ≤ 8 by decide, show (8 : Int) ≤ 8 * (sizeN false : Nat) by decide, cutL_tail _ 8 (by omega)⟩

set_option maxRecDepth 100000 in
theorem four (a : Nat) (ha : a < 256) : GivesK Try.prog 34 #[.int .i64 a, .int .i64 8] (.agg (pc (fourP a))) := by
  intro w
  obtain ⟨hz, hi⟩ := zero_of_info info24
  obtain ⟨n2, hn2⟩ : ∃ n, n = 18 := ⟨18, rfl⟩
  have hsz2 : ∀ w, (Go.sizeOf 25).run Try.prog w = .ok n2 w := fun w => by rw [hn2]; exact Try.sizeOf25 w
  have hA := (one_at w zeroP zeroP_len).1
  have hzs : (pc zeroP).size = n2 := by rw [hn2]; exact pc_size _ zeroP_len
  have hpz : (pc (fourP a)).size = n2 := by rw [hn2]; exact pc_size _ (fourP_len a)
  have HM := Lib.hid (qmake_ok false [UInt8.ofNat a, 0, 0, 0] 8 (fourP a) (fourP_make a)).keep
  have hmod : (a : Int) % 256 = a := by omega
  have hbk : ((w.alloc (.cells (pc zeroP) 25)).alloc (.cells #[.int .u8 (a : Nat), .int .u8 0, .int .u8 0, .int .u8 0] 5)).heap[w.heap.size + 1]? = some (.cells (ac [UInt8.ofNat a, 0, 0, 0]) 5 (0, 0)) := by
    have h1 := heap_alloc_last (w.alloc (.cells (pc zeroP) 25)) (.cells #[.int .u8 (a : Nat), .int .u8 0, .int .u8 0, .int .u8 0] 5)
    rw [show (w.alloc (.cells (pc zeroP) 25)).heap.size = w.heap.size + 1 by simp] at h1
    rw [h1]
    simp [ac, bv, UInt8.toNat_ofNat', Nat.mod_eq_of_lt ha]
  have hcv := conv_bytes [UInt8.ofNat a, 0, 0, 0] hbk 4 (by simp) 4
  rw [List.take_of_length_le (by simp)] at hcv
  have HN2 := Lib.hid hn2
  have HA := Lib.hid hA
  have HK := Lib.hid (show Keep w ((w.alloc (.cells (pc zeroP) 25)).alloc (.cells #[.int .u8 (a : Nat), .int .u8 0, .int .u8 0, .int .u8 0] 5)) from ((Keep.refl w).alloc _).alloc _)
  clear hA hn2 hi hbk
  have HFL := Lib.hid (fourP_len a)
  generalize fourP a = p at *
  go_enter Try.func34, Try.ntmps34
  go_wp2_with fail
  refine (HM.out _).mono ?_
  rintro e w1 ⟨rfl, b1⟩
  have HA1 := Lib.hid (show At w1 w.heap.size zeroP from ⟨b1.obj (alloc_old HA.out.block _), zeroP_len⟩)
  have HK1 := Lib.hid (HK.out.trans b1)
  have hge : w.heap.size ≤ w1.heap.size := HK1.out.size
  have hne : w.heap.size ≠ w1.heap.size := by have := block_lt HA1.out.block; omega
  have hB := (one_at w1 zeroP zeroP_len).1
  have hst := hB.store p HFL.out
  have HB2 := Lib.hid (hB.put p HFL.out)
  have hld := HB2.out.whole HN2.out
  have HA2 := Lib.hid (show At ((w1.alloc (.cells (pc zeroP) 25)).setRow w1.heap.size (pc p)) w.heap.size zeroP from ⟨setRow_old (alloc_old HA1.out.block _) _ _ hne, zeroP_len⟩)
  have hst2 := HA2.out.store p HFL.out
  have hl2 := (HA2.out.put p HFL.out).whole HN2.out
  have HK3 := Lib.hid (((HK1.out.alloc (.cells (pc zeroP) 25)).setRow w1.heap.size (pc p) hge).setRow w.heap.size (pc p) (Nat.le_refl _))
  clear b1 hB hcv HA HK HA1 HK1
  go_wp2
  refine bodyPost_ret (v := .agg (pc p)) ?_ rfl ⟨rfl, HK3.out⟩
  simp [results, Try.results34, go_sem, hsz2, hl2]

def rA (a : Nat) (m : Int) : Rt := ⟨fourP a, m, 0, fourP_len a⟩
theorem rA_right (a : Nat) (m : Int) (h0 : 0 ≤ m) (h1 : m < 65535) : rightR (rA a m) := ⟨fourP_right a, h0, h1⟩
theorem c12 : cmpP (fourP 1) (fourP 2) = -1 := by decide
theorem c21 : cmpP (fourP 2) (fourP 1) = 1 := by decide
theorem c23 : cmpP (fourP 2) (fourP 3) = -1 := by decide
theorem c13 : cmpP (fourP 1) (fourP 3) = -1 := by decide
theorem c11 : cmpP (fourP 1) (fourP 1) = 0 := by decide
theorem c22 : cmpP (fourP 2) (fourP 2) = 0 := by decide
theorem c19 : cmpP (fourP 1) (fourP 9) = -1 := by decide
theorem c29 : cmpP (fourP 2) (fourP 9) = -1 := by decide
theorem n12 : fourP 1 ≠ fourP 2 := by decide
theorem n21 : fourP 2 ≠ fourP 1 := by decide
theorem n23 : fourP 2 ≠ fourP 3 := by decide
theorem n19 : fourP 1 ≠ fourP 9 := by decide
theorem n29 : fourP 2 ≠ fourP 9 := by decide

theorem sort_a : Sorted [rA 1 1, rA 2 2] := by simp [Sorted, rA, c12]
theorem sort_b : Sorted [rA 2 3, rA 3 4] := by simp [Sorted, rA, c23]
theorem new_a : newE [rA 2 2, rA 1 1] = 0 := by
  unfold newE
  rw [if_pos (by simp [rA_right]), if_pos (by simp [rA, n21]), if_pos (by simp)]
theorem new_b : newE [rA 2 3, rA 3 4] = 0 := by
  unfold newE
  rw [if_pos (by simp [rA_right]), if_pos (by simp [rA, n23]), if_pos (by simp)]
def rBig : Rt := ⟨zeroP, 65535, 0, zeroP_len⟩
theorem new_c : newE [rBig] = 1 := by
  unfold newE
  rw [if_neg (by simp [rightR, rBig])]
theorem chg_ab : chg [rA 1 1, rA 2 2] [rA 2 3, rA 3 4] = [⟨3, wd (rA 1 1)⟩, ⟨2, rA 2 3⟩, ⟨1, rA 3 4⟩] := by
  have h : rA 2 2 ≠ rA 2 3 := by simp [rA]
  rw [chg_old _ _ _ (by simp [ahd, rA, c12]), chg_same _ _ _ _ (by simp [ahd, rA, c22]), if_neg h, chg_new _ _ _ (by simp [ahd]), chg_nil]
theorem do_1 : doS [rA 1 1, rA 2 2] 3 (wd (rA 1 1)) = ([rA 2 2], 0) := by
  unfold doS
  rw [if_neg (by decide), if_neg (by decide), if_pos rfl, if_pos ⟨fourP_right 1, rfl⟩]
  unfold dropS
  rw [if_pos (by simp [hasP, wd, rA])]
  simp [cutP, rank_cons, wd, rA, c11]
theorem do_2 : doS [rA 2 2] 2 (rA 2 3) = ([rA 2 3], 0) := by
  unfold doS
  rw [if_neg (by decide), if_pos rfl, if_pos (rA_right 2 3 (by omega) (by omega)), if_pos (by simp [hasP, rA])]
  unfold putS
  rw [if_pos (rA_right 2 3 (by omega) (by omega)), if_pos (by simp [hasP, rA])]
  simp [putL, hasP, rank_cons, rA, c22]
theorem do_3 : doS [rA 2 3] 1 (rA 3 4) = ([rA 2 3, rA 3 4], 0) := by
  have hn : ¬ hasP [rA 2 3] (rA 3 4).to = true := by simp [hasP, rA, n23]
  unfold doS
  rw [if_pos rfl, if_pos (rA_right 3 4 (by omega) (by omega)), if_neg hn]
  unfold putS
  rw [if_pos (rA_right 3 4 (by omega) (by omega)), if_neg hn, if_neg (by simp)]
  have hn2 : hasP [rA 2 3] (rA 3 4).to = false := by simpa using hn
  unfold putL
  rw [hn2]
  simp [rank_cons, rA, c23, rank_nil]
theorem get_a : getS [rA 1 1, rA 2 2] (fourP 1) = rA 1 1 ∧ hasP [rA 1 1, rA 2 2] (fourP 1) = true := by
  have h : hasP [rA 1 1, rA 2 2] (fourP 1) = true := by simp [hasP, rA]
  refine ⟨?_, h⟩
  unfold getS
  rw [if_pos h]
  simp [rank_cons, rA, c11]
theorem bet_a : betS [rA 1 1, rA 2 2] (fourP 1) (fourP 2) = [rA 1 1] := by
  simp [betS, rank_cons, rA, c11, c12, c22]
theorem drop_a : dropS [rA 1 1, rA 2 2] (fourP 9) = ([rA 1 1, rA 2 2], 8) := by
  unfold dropS
  rw [if_neg (by simp [hasP, rA, n19, n29])]
theorem ne_ab : [rA 1 1, rA 2 2] ≠ [rA 2 3, rA 3 4] := by
  intro h
  have := congrArg (fun l => (l.map Rt.metric)) h
  simp [rA] at this

/-- New, where all is right. -/
theorem new_of (v : Value) (l ls : List Rt) (w : World) (h : Cells rl w v l) (hl : l.length ≤ 1000000) (h0 : newE l = 0) (hs : Sorted ls) (hp : ls.Perm l) :
    Calls Try.prog 11 #[v] w fun e w' => ∃ b, e = .returned (.tuple #[.pointer (some ⟨b, 0, none⟩), .int .i64 0]) ∧ w.heap.size ≤ b ∧ Tb w' b ls ∧ Keep w w' := by
  refine (new v l w h hl).mono ?_
  rintro e w' ⟨p, rfl, hk, ⟨h1, _⟩ | ⟨_, b, l', rfl, hb, hp', ht⟩⟩
  · exact absurd h0 h1
  · rw [sorted_unique hs ht.sorted (hp.trans hp'.symm), h0]
    exact ⟨b, rfl, hb, ht, hk⟩
theorem new_no (v : Value) (l : List Rt) (x : Int) (w : World) (h : Cells rl w v l) (hl : l.length ≤ 1000000) (h0 : newE l = x) (hx : x ≠ 0) :
    Calls Try.prog 11 #[v] w fun e w' => e = .returned (.tuple #[.pointer none, .int .i64 x]) ∧ Keep w w' := by
  refine (new v l w h hl).mono ?_
  rintro e w' ⟨p, rfl, hk, ⟨_, rfl⟩ | ⟨h1, _⟩⟩
  · exact ⟨by rw [h0], hk⟩
  · exact absurd (h0.symm.trans h1) hx
theorem Row.two (w : World) (r s : Rt) : Row rl 34 (w.alloc (.cells (flat rl [r, s]).toArray 34)) (.slice (some ⟨w.heap.size, 0, none⟩) 2 2) [r, s] := by
  have hb : (w.alloc (.cells (flat rl [r, s]).toArray 34)).heap[w.heap.size]? = some (.cells (flat rl [r, s]).toArray 34 (0, 0)) := heap_alloc_last w _
  refine ⟨.inr ⟨w.heap.size, 0, 2, rfl, Nat.le_refl _, by simp [maxLen], block_lt hb, fun j u hj => ?_⟩, fun g hg => ?_⟩
  · exact cell_obj hb (by rw [Nat.zero_add]; simpa using hj)
  · simp [Value.ownBlock] at hg
    subst hg
    exact ⟨_, _, hb⟩
end Go.Proofs.Ytgocmolebanflaa
