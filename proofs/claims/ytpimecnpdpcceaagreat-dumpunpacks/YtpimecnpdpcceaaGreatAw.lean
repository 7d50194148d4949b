/- Proved: what the law's four and its first line, awake, answer. No condition. -/
import Derived.Test.YtpimecnpdpcceaaGreatDi
import Derived.Test.YtpimecnpdpcceaaGreatMt
namespace Go.Proofs.YtpimecnpdpcceaaGreat
open Go.RowKit

/-- The prefix of four bytes, two of them told. -/
def fourP (a c n : Nat) : Px := ⟨false, cutL (padL [UInt8.ofNat a, UInt8.ofNat c, 0, 0]) n, n⟩
theorem fourP_len (a c n : Nat) : (fourP a c n).addr.length = 16 := cutL_len _ _
theorem fourP_make (a c n : Nat) (hn : n ≤ 32) : makeP false [UInt8.ofNat a, UInt8.ofNat c, 0, 0] n = some (fourP a c n) := by
  unfold makeP
  rw [if_pos ⟨rfl, by unfold fitsB sizeN; simp; omega⟩]
  rfl
theorem fourP_right (a c n : Nat) (hn : n ≤ 32) : rightP (fourP a c n) := by
  unfold fourP
  exact ⟨show (0 : Int) ≤ n by omega, show (n : Int) ≤ 8 * (sizeN false : Nat) by unfold sizeN; simp; omega, cutL_tail _ n (by omega)⟩

set_option maxRecDepth 100000 in
theorem four (a c n : Nat) (ha : a < 256) (hc : c < 256) (hn : n ≤ 32) : GivesK Tryz.prog 21 #[.int .i64 a, .int .i64 c, .int .i64 n] (.agg (pc (fourP a c n))) := by
  intro w
  obtain ⟨hz, hi⟩ := zero_of_info info24
  obtain ⟨n2, hn2⟩ : ∃ n, n = 18 := ⟨18, rfl⟩
  have hsz2 : ∀ w, (Go.sizeOf 41).run Tryz.prog w = .ok n2 w := fun w => by rw [hn2]; exact Tryz.sizeOf41 w
  have hA := (one_at w zeroP zeroP_len).1
  have hzs : (pc zeroP).size = n2 := by rw [hn2]; exact pc_size _ zeroP_len
  have hpz : (pc (fourP a c n)).size = n2 := by rw [hn2]; exact pc_size _ (fourP_len a c n)
  have HM := Lib.hid (qmake_ok false [UInt8.ofNat a, UInt8.ofNat c, 0, 0] n (fourP a c n) (fourP_make a c n hn)).keep
  have hmod : (a : Int) % 256 = a := by omega
  have hmod2 : (c : Int) % 256 = c := by omega
  have hbk : ((w.alloc (.cells (pc zeroP) 41)).alloc (.cells #[.int .u8 (a : Nat), .int .u8 (c : Nat), .int .u8 0, .int .u8 0] 5)).heap[w.heap.size + 1]? = some (.cells (ac [UInt8.ofNat a, UInt8.ofNat c, 0, 0]) 5 (0, 0)) := by
    have h1 := heap_alloc_last (w.alloc (.cells (pc zeroP) 41)) (.cells #[.int .u8 (a : Nat), .int .u8 (c : Nat), .int .u8 0, .int .u8 0] 5)
    rw [show (w.alloc (.cells (pc zeroP) 41)).heap.size = w.heap.size + 1 by simp] at h1
    rw [h1]
    simp [ac, bv, UInt8.toNat_ofNat', Nat.mod_eq_of_lt ha, Nat.mod_eq_of_lt hc]
  have hcv := conv_bytes [UInt8.ofNat a, UInt8.ofNat c, 0, 0] hbk 4 (by simp) 4
  rw [List.take_of_length_le (by simp)] at hcv
  have HN2 := Lib.hid hn2
  have HA := Lib.hid hA
  have HK := Lib.hid (show Keep w ((w.alloc (.cells (pc zeroP) 41)).alloc (.cells #[.int .u8 (a : Nat), .int .u8 (c : Nat), .int .u8 0, .int .u8 0] 5)) from ((Keep.refl w).alloc _).alloc _)
  clear hA hn2 hi hbk
  have HFL := Lib.hid (fourP_len a c n)
  generalize fourP a c n = p at *
  go_enter Tryz.func21, Tryz.ntmps21
  go_wp2_with fail
  refine (HM.out _).mono ?_
  rintro e w1 ⟨rfl, b1⟩
  have HA1 := Lib.hid (show At w1 w.heap.size zeroP from ⟨b1.obj (alloc_old HA.out.block _), zeroP_len⟩)
  have HK1 := Lib.hid (HK.out.trans b1)
  have hge : w.heap.size ≤ w1.heap.size := HK1.out.size
  have hne : w.heap.size ≠ w1.heap.size := by have := block_lt HA1.out.block; omega
  have hB := (one_at w1 zeroP zeroP_len).1
  have hst := hB.store p HFL.out
  have HB2 := Lib.hid (hB.put p HFL.out)
  have hld := HB2.out.whole HN2.out
  have HA2 := Lib.hid (show At ((w1.alloc (.cells (pc zeroP) 41)).setRow w1.heap.size (pc p)) w.heap.size zeroP from ⟨setRow_old (alloc_old HA1.out.block _) _ _ hne, zeroP_len⟩)
  have hst2 := HA2.out.store p HFL.out
  have hl2 := (HA2.out.put p HFL.out).whole HN2.out
  have HK3 := Lib.hid (((HK1.out.alloc (.cells (pc zeroP) 41)).setRow w1.heap.size (pc p) hge).setRow w.heap.size (pc p) (Nat.le_refl _))
  clear b1 hB hcv HA HK HA1 HK1
  go_wp2
  refine bodyPost_ret (v := .agg (pc p)) ?_ rfl ⟨rfl, HK3.out⟩
  simp [results, Tryz.results21, go_sem, hsz2, hl2]

theorem new_of (v : Value) (l ls : List Rt) (w : World) (h : Cells rl w v l) (hl : l.length ≤ 1000000) (h0 : newE l = 0) (hs : Sorted ls) (hp : ls.Perm l) :
    Calls Tryz.prog 17 #[v] w fun e w' => ∃ b, e = .returned (.tuple #[.pointer (some ⟨b, 0, none⟩), .int .i64 0]) ∧ w.heap.size ≤ b ∧ Tb w' b ls ∧ Keep w w' := by
  refine (new v l w h hl).mono ?_
  rintro e w' ⟨p, rfl, hk, ⟨h1, _⟩ | ⟨_, b, l', rfl, hb, hp', ht⟩⟩
  · exact absurd h0 h1
  · rw [sorted_unique hs ht.sorted (hp.trans hp'.symm), h0]
    exact ⟨b, rfl, hb, ht, hk⟩
theorem Row.two (w : World) (r s : Rt) : Row rl 44 (w.alloc (.cells (flat rl [r, s]).toArray 44)) (.slice (some ⟨w.heap.size, 0, none⟩) 2 2) [r, s] := by
  have hb : (w.alloc (.cells (flat rl [r, s]).toArray 44)).heap[w.heap.size]? = some (.cells (flat rl [r, s]).toArray 44 (0, 0)) := heap_alloc_last w _
  refine ⟨.inr ⟨w.heap.size, 0, 2, rfl, Nat.le_refl _, by simp [maxLen], block_lt hb, fun j u hj => ?_⟩, fun g hg => ?_⟩
  · exact cell_obj hb (by rw [Nat.zero_add]; simpa using hj)
  · simp [Value.ownBlock] at hg
    subst hg
    exact ⟨_, _, hb⟩

/-! ### What is dumped is read as it was -/
theorem read_dump {l : List Rt} (hs : Sorted l) (hr : ∀ r ∈ l, Rok r) (hl : l.length ≤ 300) : Dm.readD codP (Dm.dumpL codP (l.map rwOf)) = .ok (l.map rwOf) :=
  Dm.d_ok (okD_of l none hs hr (by simp)) (by rw [List.length_map]; exact hl)
theorem map_rt {l : List Rt} (hr : ∀ r ∈ l, Rok r) : (l.map rwOf).map rtOf = l := by
  rw [List.map_map]
  conv => rhs; rw [← List.map_id l]
  exact List.map_congr_left fun r h => rt_rw (hr r h)
theorem unp_pack {l : List Rt} {p : List UInt8} (hs : Sorted l) (hr : ∀ r ∈ l, Rok r) (hl : l.length ≤ 300) (hp : Packs (Dm.dumpL codP (l.map rwOf)) p) : unpD p = .ok (l.map rwOf) := by
  have h := hp.back (dump_short l hl hr) 65536 (dump_short l hl hr)
  unfold unpD
  rw [h]
  simp only [ne_eq, not_true, if_false]
  exact read_dump hs hr hl
/-- A table that was read. -/
def TabPost (w : World) (l : List Rt) (e : Ending) (w' : World) : Prop := ∃ b, e = .returned (.tuple #[.pointer (some ⟨b, 0, none⟩), .int .i64 0]) ∧ Tb w' b l ∧ Keep w w'
theorem dread_dump {l : List Rt} (hs : Sorted l) (hr : ∀ r ∈ l, Rok r) (hl : l.length ≤ 300) (w : World) : Calls Tryz.prog 7 #[.string ⟨(Dm.dumpL codP (l.map rwOf)).toArray⟩] w (TabPost w l) := by
  have h := dread (Dm.dumpL codP (l.map rwOf)) (by have := dump_short l hl hr; omega) w
  rw [read_dump hs hr hl] at h
  refine h.mono ?_
  rintro e w' ⟨b, rfl, _, htb, _, _, k⟩
  rw [map_rt hr] at htb
  exact ⟨b, rfl, htb, k⟩
theorem dunpack_pack {l : List Rt} {p : List UInt8} (hs : Sorted l) (hr : ∀ r ∈ l, Rok r) (hl : l.length ≤ 300) (hp : Packs (Dm.dumpL codP (l.map rwOf)) p) (w : World) : Calls Tryz.prog 14 #[.string ⟨p.toArray⟩] w (TabPost w l) := by
  have hd := dump_short l hl hr
  have h := dunpack p (by have := hp.len hd; omega) w
  rw [unp_pack hs hr hl hp] at h
  refine h.mono ?_
  rintro e w' ⟨b, rfl, _, htb, _, _, k⟩
  rw [map_rt hr] at htb
  exact ⟨b, rfl, htb, k⟩
theorem dread_no {s : List UInt8} {x : Int} (h : Dm.readD codP s = .error x) (hs : s.length ≤ 1000000) (w : World) : Calls Tryz.prog 7 #[.string ⟨s.toArray⟩] w fun e w' => e = .returned (.tuple #[.pointer none, .int .i64 x]) ∧ Keep w w' := by
  have h2 := dread s (by omega) w
  rw [h] at h2
  exact h2.mono fun e w' ⟨a, _, b⟩ => ⟨a, b⟩

/-! ### The first line's tables -/
def r1 : Rt := ⟨fourP 10 0 8, 1, 0, fourP_len _ _ _⟩
def r2 : Rt := ⟨fourP 10 1 16, 2, 0, fourP_len _ _ _⟩
theorem c12 : cmpP (fourP 10 0 8) (fourP 10 1 16) = -1 := by decide
theorem sort_12 : Sorted [r1, r2] := by simp [Sorted, r1, r2, c12]
theorem rok_12 : ∀ r ∈ [r1, r2], Rok r := by
  intro r hr
  simp at hr
  rcases hr with rfl | rfl
  · exact ⟨⟨fourP_right _ _ _ (by omega), by decide, by decide⟩, by decide, by decide⟩
  · exact ⟨⟨fourP_right _ _ _ (by omega), by decide, by decide⟩, by decide, by decide⟩
theorem new_12 : newE [r1, r2] = 0 := newE_zero sort_12 rok_12 (by simp)
theorem pb_1 : codP.pb (fourP 10 0 8) = [8, 10] := by
  rw [pb_right (fourP_right _ _ _ (by omega)) (fourP_len _ _ _)]
  decide
theorem pb_2 : codP.pb (fourP 10 1 16) = [16, 10, 1] := by
  rw [pb_right (fourP_right _ _ _ (by omega)) (fourP_len _ _ _)]
  decide
theorem dump_12 : Dm.dumpL codP ([r1, r2].map rwOf) = [2, 0, 2, 8, 10, 1, 0, 0, 3, 16, 10, 1, 2, 0] := by
  have e1 : rwOf r1 = ⟨fourP 10 0 8, 1, 0⟩ := rfl
  have e2 : rwOf r2 = ⟨fourP 10 1 16, 2, 0⟩ := rfl
  simp [Dm.dumpL, Dm.goD, Dm.putR, e1, e2, pb_1, pb_2, Dm.tx, Dm.com, V.enc_lt]
theorem dump_nil : Dm.dumpL codP (([] : List Rt).map rwOf) = [0] := by
  simp [Dm.dumpL, Dm.goD, V.enc_lt]
theorem read_1 : Dm.readD codP [1] = .error 3 := by
  have h : V.uintF [1] 0 = (1, [], 0) := by decide
  have h2 : V.uintF [] 0 = (0, [], 3) := by decide
  unfold Dm.readD
  rw [h]
  simp [Dm.readN, Dm.readOne, h2]
theorem read_00 : Dm.readD codP [0, 0] = .error 4 := by
  have h : V.uintF [0, 0] 0 = (0, [0], 0) := by decide
  unfold Dm.readD
  rw [h]
  simp [Dm.readN]
end Go.Proofs.YtpimecnpdpcceaaGreat
