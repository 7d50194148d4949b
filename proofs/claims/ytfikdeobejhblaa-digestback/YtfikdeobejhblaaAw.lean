/- Proved: what the law's route answers; the few rows of the laws' first line. No condition. -/
import Derived.Test.YtfikdeobejhblaaDf
import Derived.Test.YtfikdeobejhblaaDi
import Derived.Test.YtfikdeobejhblaaDr
namespace Go.Proofs.Ytfikdeobejhblaa
open Go.RowKit

/-- The prefix of four bytes, and of eight bits. -/
def fourP (a : Nat) : Px := ⟨false, cutL (padL [UInt8.ofNat a, 0, 0, 0]) 8, 8⟩
theorem fourP_len (a : Nat) : (fourP a).addr.length = 16 := by
  show (cutL (padL [UInt8.ofNat a, 0, 0, 0]) 8).length = 16
  exact cutL_len _ _
theorem fourP_make (a : Nat) : makeP false [UInt8.ofNat a, 0, 0, 0] 8 = some (fourP a) := by
  unfold makeP
  rw [if_pos ⟨rfl, by decide⟩]
  rfl
theorem fourP_right (a : Nat) : rightP (fourP a) := by
  unfold fourP
  exact ⟨show (0 : Int) ≤ 8 by decide, show (8 : Int) ≤ 8 * (sizeN false : Nat) by decide, cutL_tail _ 8 (by omega)⟩
def rA (a : Nat) (m : Int) : Rt := ⟨fourP a, m, 0, fourP_len a⟩
theorem rA_right (a : Nat) (m : Int) (h0 : 0 ≤ m) (h1 : m < 65535) : rightR (rA a m) := ⟨fourP_right a, h0, h1⟩
theorem info24b : (Try.prog.info? 34).map (fun i => (i.zero, i.size)) = some (some (.agg (pc zeroP)), 18) := by kernel_rfl

set_option maxRecDepth 100000 in
set_option maxHeartbeats 1000000 in
theorem lroute (m : Int) (a : Nat) (ha : a < 256) : GivesK Try.prog 39 #[.int .i64 a, .int .i64 m] (.agg (rc (rA a m))) := by
  intro w
  obtain ⟨hz, hi⟩ := zero_of_info info24b
  obtain ⟨hz1, hi1⟩ := zero_of_info info34b
  obtain ⟨n, hn⟩ : ∃ n, n = 20 := ⟨20, rfl⟩
  have hsz : ∀ w, (Go.sizeOf 37).run Try.prog w = .ok n w := fun w => by rw [hn]; exact Try.sizeOf37 w
  obtain ⟨n2, hn2⟩ : ∃ n, n = 18 := ⟨18, rfl⟩
  have hsz2 : ∀ w, (Go.sizeOf 34).run Try.prog w = .ok n2 w := fun w => by rw [hn2]; exact Try.sizeOf34 w
  have hA := RAt.new w zeroR
  have hzi : (rc zeroR).size = n := by rw [hn]; exact rc_size _
  have hxi : (rc (rA a m)).size = n := by rw [hn]; exact rc_size _
  have hzs : (pc zeroP).size = n2 := by rw [hn2]; exact pc_size _ zeroP_len
  have hpz : (pc (fourP a)).size = n2 := by rw [hn2]; exact pc_size _ (fourP_len a)
  have HM := Lib.hid (qmake_ok false [UInt8.ofNat a, 0, 0, 0] 8 (fourP a) (fourP_make a)).keep
  have hmod : (a : Int) % 256 = a := by omega
  have hbk : ((w.alloc (.cells (rc zeroR) 37)).alloc (.cells #[.int .u8 (a : Nat), .int .u8 0, .int .u8 0, .int .u8 0] 5)).heap[w.heap.size + 1]? = some (.cells (ac [UInt8.ofNat a, 0, 0, 0]) 5 (0, 0)) := by
    have h1 := heap_alloc_last (w.alloc (.cells (rc zeroR) 37)) (.cells #[.int .u8 (a : Nat), .int .u8 0, .int .u8 0, .int .u8 0] 5)
    rw [show (w.alloc (.cells (rc zeroR) 37)).heap.size = w.heap.size + 1 by simp] at h1
    rw [h1]
    simp [ac, bv, UInt8.toNat_ofNat', Nat.mod_eq_of_lt ha]
  have hcv := conv_bytes [UInt8.ofNat a, 0, 0, 0] hbk 4 (by simp) 4
  rw [List.take_of_length_le (by simp)] at hcv
  have HN := Lib.hid hn
  have HN2 := Lib.hid hn2
  have HA := Lib.hid hA
  have HK := Lib.hid (show Keep w ((w.alloc (.cells (rc zeroR) 37)).alloc (.cells #[.int .u8 (a : Nat), .int .u8 0, .int .u8 0, .int .u8 0] 5)) from ((Keep.refl w).alloc _).alloc _)
  have HB1 := Lib.hid (fun w => build_way (fourP a) (fourP_len a) m w)
  rw [show (⟨fourP a, m, 0, fourP_len a⟩ : Rt) = rA a m from rfl] at HB1
  clear hA hn hn2 hi hi1 hbk
  have HFL := Lib.hid (fourP_len a)
  generalize rA a m = X at *
  generalize fourP a = p at *
  go_enter Try.func39, Try.ntmps39
  go_wp2_with fail
  refine (HM.out _).mono ?_
  rintro e w1 ⟨rfl, b1⟩
  have HA1 := Lib.hid (show RAt w1 w.heap.size zeroR from b1.obj (alloc_old HA.out _))
  have HK1 := Lib.hid (HK.out.trans b1)
  have hge : w.heap.size ≤ w1.heap.size := HK1.out.size
  have hne : w.heap.size ≠ w1.heap.size := by have := block_lt HA1.out; omega
  have hB := (one_at w1 zeroP zeroP_len).1
  have hst := hB.store p HFL.out
  have HB2' := Lib.hid (hB.put p HFL.out)
  have hld := HB2'.out.whole HN2.out
  have HA2 := Lib.hid (show RAt ((w1.alloc (.cells (pc zeroP) 34)).setRow w1.heap.size (pc p)) w.heap.size zeroR from setRow_old (alloc_old HA1.out _) _ _ hne)
  have hst2 := HA2.out.store X
  have hl2 := (HA2.out.put X).whole HN.out
  have HK3 := Lib.hid (((HK1.out.alloc (.cells (pc zeroP) 34)).setRow w1.heap.size (pc p) hge).setRow w.heap.size (rc X) (Nat.le_refl _))
  clear b1 hB hcv HA HK HA1 HK1
  generalize pc p = T at *
  go_wp2_with ((with_reducible refine at_build (t := 37) [(0, .agg T), (1, .int .i64 m)] ?_ (.agg (rc X)) ?_ ?_); rfl; exact HB1.out _)
  refine bodyPost_ret (v := .agg (rc X)) ?_ rfl ⟨rfl, HK3.out⟩
  simp [results, Try.results39, go_sem, hsz, hl2]

theorem new_of (v : Value) (l ls : List Rt) (w : World) (h : Cells rl w v l) (hl : l.length ≤ 1000000) (h0 : newE l = 0) (hs : Sorted ls) (hp : ls.Perm l) :
    Calls Try.prog 11 #[v] w fun e w' => ∃ b, e = .returned (.tuple #[.pointer (some ⟨b, 0, none⟩), .int .i64 0]) ∧ w.heap.size ≤ b ∧ Tb w' b ls ∧ Keep w w' := by
  refine (new v l w h hl).mono ?_
  rintro e w' ⟨p, rfl, hk, ⟨h1, _⟩ | ⟨_, b, l', rfl, hb, hp', ht⟩⟩
  · exact absurd h0 h1
  · rw [sorted_unique hs ht.sorted (hp.trans hp'.symm), h0]
    exact ⟨b, rfl, hb, ht, hk⟩
theorem Row.two (w : World) (r s : Rt) : Row rl 37 (w.alloc (.cells (flat rl [r, s]).toArray 37)) (.slice (some ⟨w.heap.size, 0, none⟩) 2 2) [r, s] := by
  have hb : (w.alloc (.cells (flat rl [r, s]).toArray 37)).heap[w.heap.size]? = some (.cells (flat rl [r, s]).toArray 37 (0, 0)) := heap_alloc_last w _
  refine ⟨.inr ⟨w.heap.size, 0, 2, rfl, Nat.le_refl _, by simp [maxLen], block_lt hb, fun j u hj => ?_⟩, fun g hg => ?_⟩
  · exact cell_obj hb (by rw [Nat.zero_add]; simpa using hj)
  · simp [Value.ownBlock] at hg
    subst hg
    exact ⟨_, _, hb⟩

/-! ### The first line's rows -/
theorem c10 : cmpP (fourP 10) (fourP 200) = -1 := by decide
theorem n10 : fourP 10 ≠ fourP 200 := by decide
def tA (m : Int) : List Rt := [rA 10 m, rA 200 2]
theorem tA_sorted (m : Int) : Sorted (tA m) := by simp [tA, Sorted, rA, c10]
theorem tA_new (m : Int) (h0 : 0 ≤ m) (h1 : m < 65535) : newE (tA m) = 0 := by
  unfold newE
  rw [if_pos (by simp [tA, rA_right, h0, h1]), if_pos (by simp [tA, rA, n10]), if_pos (by simp [tA])]
theorem b10 : bkt (fourP 10) = 0 := by decide
theorem b200 : bkt (fourP 200) = 12 := by decide
theorem part_A (m : Int) : partB (tA m) 0 = [rA 10 m] := by simp [partB, tA, isB, rA, b10, b200]
theorem oth_A (m : Int) : othB (tA m) 0 = [rA 200 2] := by simp [othB, tA, isB, rA, b10, b200]
theorem dif_A : diffD (allD (tA 1)) (allD (tA 2)) = [0] := by kernel_rfl
theorem mark_A : markOf (rA 10 1) ≠ markOf (rA 10 2) := by
  have h : decide (markOf (rA 10 1) = markOf (rA 10 2)) = false := by kernel_rfl
  exact of_decide_eq_false h
theorem dif_no {l : List Dg} : diffD [] l = List.range 17 := by
  unfold diffD
  rw [List.filter_eq_self]
  intro k _
  simp [difK]
theorem all_right (l : List Rt) (hl : l.length ≤ 300) : ∀ d ∈ allD l, okD9 d := by
  intro d hd
  unfold allD at hd
  obtain ⟨k, _, rfl⟩ := List.mem_map.1 hd
  have h := part_len l k
  unfold dgOf dgR okD9
  simp only [U_eq]
  omega
theorem okD9.sq {d : Dg} (h : okD9 d) : SqD d := ⟨by have := h.2.1; omega, h.2.2.1, h.2.2.2⟩
theorem all_sq (l : List Rt) (hl : l.length ≤ 300) : ∀ d ∈ allD l, SqD d := fun d hd => (all_right l hl d hd).sq
theorem drepl_ok {b : Nat} {l m ls : List Rt} {k : Int} {v : Value} {w : World} (h : Tb w b l) (hm : Cells rl w v m) (hl : m.length ≤ 100000) (h0 : replE newE l k m = 0) (hs : Sorted ls) (hp : ls.Perm (replL l k m)) :
    Calls Try.prog 13 #[.pointer (some ⟨b, 0, none⟩), .int .i64 k, v] w fun e w' => ∃ c, e = .returned (.tuple #[.pointer (some ⟨c, 0, none⟩), .int .i64 0]) ∧ w.heap.size ≤ c ∧ Tb w' c ls ∧ Keep w w' := by
  refine (drepl b l k v m w h hm hl).mono ?_
  rintro e w' ⟨p, rfl, hk, ⟨h1, _⟩ | ⟨_, c, l', rfl, hb, hp', ht⟩⟩
  · exact absurd h0 h1
  · rw [sorted_unique hs ht.sorted (hp.trans hp'.symm), h0]
    exact ⟨c, rfl, hb, ht, hk⟩
theorem drepl_no {b : Nat} {l m : List Rt} {k x : Int} {v : Value} {w : World} (h : Tb w b l) (hm : Cells rl w v m) (hl : m.length ≤ 100000) (h0 : replE newE l k m = x) (hx : x ≠ 0) :
    Calls Try.prog 13 #[.pointer (some ⟨b, 0, none⟩), .int .i64 k, v] w fun e w' => e = .returned (.tuple #[.pointer none, .int .i64 x]) ∧ Keep w w' := by
  refine (drepl b l k v m w h hm hl).mono ?_
  rintro e w' ⟨p, rfl, hk, ⟨_, rfl⟩ | ⟨h1, _⟩⟩
  · rw [h0]
    exact ⟨rfl, hk⟩
  · exact absurd (h0.symm.trans h1) hx
theorem rep_0 : replE newE (tA 1) 0 [rA 10 2] = 0 := by
  unfold replE replL
  rw [if_neg (by omega), if_pos (by simp [rA, b10]), oth_A]
  unfold newE
  rw [if_pos (by simp [rA_right]), if_pos (by simp [rA, Ne.symm n10]), if_pos (by simp)]
theorem rep_0p : (tA 2).Perm (replL (tA 1) 0 [rA 10 2]) := by
  unfold replL
  rw [oth_A]
  exact List.Perm.swap _ _ _
theorem rep_17 : replE newE (tA 1) 17 [] = 2 := by
  unfold replE
  rw [if_pos (by omega)]
theorem rep_1 : replE newE (tA 1) 1 [rA 10 2] = 1 := by
  unfold replE
  rw [if_neg (by omega), if_neg (by simp [rA, b10])]
theorem dread_ok {s : List UInt8} {l : List Dg} (w : World) (hs : s.length ≤ 1000000) (h : readD9 s = .ok l) : Calls Try.prog 30 #[.string ⟨s.toArray⟩] w fun e w' => ∃ g cap, e = .returned (.tuple #[.slice (some ⟨g, 0, none⟩) l.length cap, .int .i64 0]) ∧ Own 68 2 dl w.heap.size w' (.slice (some ⟨g, 0, none⟩) l.length cap) l ∧ Keep w w' := by
  have := dread s w hs
  rw [h] at this
  exact this
theorem buckets : GivesK Try.prog 40 #[] (.int .i64 17) := by
  intro w
  go_enter Try.func40, Try.ntmps40
  go_wp2
  go_ret
  exact ⟨rfl, Keep.refl w⟩
end Go.Proofs.Ytfikdeobejhblaa
