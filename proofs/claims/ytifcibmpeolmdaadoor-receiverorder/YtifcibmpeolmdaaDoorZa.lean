/- Proved: receivers and the document's receivers in memory, with the blocks that are theirs: what their calls answer, and which blocks they may have turned. Condition: they lie in memory; numbers are ints. -/
import Derived.Test.YtifcibmpeolmdaaDoorDg
namespace Go.Proofs.YtifcibmpeolmdaaDoor
open Go.RowKit

/-- A receiver lies in block b, with what is its own in the blocks K. -/
def Z (w : World) (K : List Nat) (b : Nat) (r : Rv) : Prop := ∃ bm bc m, K = blks b bm bc m ∧ S w b bm bc m r
/-- The document's one. -/
def Y (w : World) (K : List Nat) (g : Nat) (r : Rv) : Prop := ∃ bi bc bd, K = [g, bi, bc, bd] ∧ R w g bi bc bd r
/-- Blocks of the one's own, or new ones. -/
def More (w : World) (K K' : List Nat) : Prop := ∀ k ∈ K', k ∈ K ∨ w.heap.size ≤ k
/-- Two that have no block in common. -/
def Apart (K L : List Nat) : Prop := ∀ k ∈ K, k ∉ L
def From (n : Nat) (K : List Nat) : Prop := ∀ k ∈ K, n ≤ k
def Upto' (n : Nat) (K : List Nat) : Prop := ∀ k ∈ K, k < n
theorem Apart.symm {K L : List Nat} (h : Apart K L) : Apart L K := fun k hk hl => h k hl hk
theorem Apart.more {w : World} {K K' L : List Nat} (h : Apart K L) (m : More w K K') (hl : Upto' w.heap.size L) : Apart K' L := fun k hk hkl => by
  rcases m k hk with h1 | h1
  · exact h k h1 hkl
  · have := hl k hkl; omega
theorem Apart.from {n : Nat} {K L : List Nat} (hk : Upto' n K) (hl : From n L) : Apart K L := fun k h1 h2 => by have := hk k h1; have := hl k h2; omega
theorem From.more {n : Nat} {w : World} {K K' : List Nat} (h : From n K) (m : More w K K') (hn : n ≤ w.heap.size) : From n K' := fun k hk => by
  rcases m k hk with h1 | h1
  · exact h k h1
  · omega
theorem From.mono {n n' : Nat} {K : List Nat} (h : From n K) (hn : n' ≤ n) : From n' K := fun k hk => Nat.le_trans hn (h k hk)
theorem Turn.from {K : List Nat} {u v w : World} (h : Keep u v) (k : Turn K v w) (hf : From u.heap.size K) : Keep u w := Turn.made h k hf
section
variable {w w' : World} {K L : List Nat} {b g : Nat} {r : Rv}
theorem Z.keep (h : Z w K b r) (k : Keep w w') : Z w' K b r := by
  obtain ⟨bm, bc, m, e, hs⟩ := h
  exact ⟨bm, bc, m, e, hs.keep k⟩
theorem Z.low (h : Z w K b r) : Upto' w.heap.size K := by
  obtain ⟨bm, bc, m, rfl, hs⟩ := h
  exact hs.low
theorem Z.zero (h : Z w K b r) : 0 ∉ K := by
  obtain ⟨bm, bc, m, rfl, hs⟩ := h
  exact hs.pos0
theorem Z.good (h : Z w K b r) : Good r := by
  obtain ⟨bm, bc, m, rfl, hs⟩ := h
  exact hs.good
theorem Z.tab (h : Z w K b r) : Tab w := by
  obtain ⟨bm, bc, m, rfl, hs⟩ := h
  exact hs.map.tab
theorem Z.turn (h : Z w K b r) (k : Turn L w w') (h0 : 0 ∉ L) (ha : Apart K L) : Z w' K b r := by
  obtain ⟨bm, bc, m, rfl, hs⟩ := h
  exact ⟨bm, bc, m, rfl, hs.turn k h0 (ha _ in_b) (ha _ in_bm) (ha _ in_bc) (fun x hx => ha _ (in_m hx))⟩
theorem Y.keep (h : Y w K g r) (k : Keep w w') : Y w' K g r := by
  obtain ⟨bi, bc, bd, e, hs⟩ := h
  exact ⟨bi, bc, bd, e, hs.keep k⟩
theorem Y.low (h : Y w K g r) : Upto' w.heap.size K := by
  obtain ⟨bi, bc, bd, rfl, hs⟩ := h
  exact hs.low
theorem Y.zero (h : Y w K g r) : 0 ∉ K := by
  obtain ⟨bi, bc, bd, rfl, hs⟩ := h
  exact hs.pos
theorem Y.good (h : Y w K g r) : Good r := by
  obtain ⟨bi, bc, bd, rfl, hs⟩ := h
  exact hs.good
theorem Y.turn (h : Y w K g r) (k : Turn L w w') (ha : Apart K L) : Y w' K g r := by
  obtain ⟨bi, bc, bd, rfl, hs⟩ := h
  exact ⟨bi, bc, bd, rfl, hs.turn k (ha _ (by simp)) (ha _ (by simp)) (ha _ (by simp)) (ha _ (by simp))⟩

/-! ### Calls -/
theorem znew (a c : Int) (n : Nat) (h : mayR a c n) (w : World) (ht : Tab w) : Calls Tryd.prog 11 #[.int .i64 a, .int .i64 c, .int .i64 n] w fun e w' => ∃ b K, e = .returned (.tuple #[.pointer (some ⟨b, 0, none⟩), .int .i64 0]) ∧ Z w' K b (newR a c n) ∧ From w.heap.size K ∧ Keep w w' := by
  refine (vnew_at a c n h w ht).mono ?_
  rintro e w' ⟨b, bm, bc, rfl, hs, h1, h2, h3, k⟩
  refine ⟨b, _, rfl, ⟨bm, bc, none, rfl, hs⟩, ?_, k⟩
  intro x hx
  simp only [blks, Option.toList_none, List.mem_cons, List.not_mem_nil, or_false] at hx
  omega
theorem ztake (f : Fr) (hs : SqF f) (h : Z w K b r) (hd : r.d (r.wrong f : Nat) < 9223372036854775807) : Calls Tryd.prog 14 #[.pointer (some ⟨b, 0, none⟩), .agg (fc f)] w fun e w' =>
    e = .returned (.int .i64 (r.wrong f : Nat)) ∧ ∃ K', Z w' K' b (r.take f) ∧ Turn K w w' ∧ More w K K' := by
  obtain ⟨bm, bc, m, rfl, h⟩ := h
  refine (vtake_at f hs hd h).mono ?_
  rintro e w' ⟨rfl, m', hs', t, hm⟩
  refine ⟨rfl, _, ⟨bm, bc, m', rfl, hs'⟩, t, ?_⟩
  intro k hk
  simp only [blks, List.mem_cons, Option.mem_toList] at hk ⊢
  rcases hk with h1 | h1 | h1 | h1
  · exact .inl (.inl h1)
  · exact .inl (.inr (.inl h1))
  · exact .inl (.inr (.inr (.inl h1)))
  · rcases hm with hm | ⟨x, hx, hl⟩
    · exact .inl (.inr (.inr (.inr (by rw [← hm]; exact h1))))
    · rw [hx] at h1
      cases h1
      exact .inr hl
theorem zack (h : Z w K b r) : Calls Tryd.prog 16 #[.pointer (some ⟨b, 0, none⟩)] w fun e w' => e = .returned (.agg (fc r.ack)) ∧ Keep w w' := by
  obtain ⟨bm, bc, m, rfl, h⟩ := h
  exact vack_at h
theorem zdone (h : Z w K b r) : Calls Tryd.prog 18 #[.pointer (some ⟨b, 0, none⟩)] w fun e w' => e = .returned (.bool (decide r.full)) ∧ Keep w w' := by
  obtain ⟨bm, bc, m, rfl, h⟩ := h
  exact vdone_at h
theorem zdata (h : Z w K b r) : Calls Tryd.prog 21 #[.pointer (some ⟨b, 0, none⟩)] w fun e w' => e = .returned (.tuple #[.string ⟨r.data.toArray⟩, .int .i64 (r.dataE : Nat)]) ∧ Keep w w' := by
  obtain ⟨bm, bc, m, rfl, h⟩ := h
  exact vdata_at h
theorem zthere (h : Z w K b r) : Calls Tryd.prog 25 #[.pointer (some ⟨b, 0, none⟩)] w fun e w' => ∃ c, e = .returned (.pointer (some ⟨c, 0, none⟩)) ∧ w.heap.size ≤ c ∧ M w' c r.l ∧ Keep w w' := by
  obtain ⟨bm, bc, m, rfl, h⟩ := h
  exact vthere_at h
theorem zdrops (i : Int) (h : Z w K b r) : Calls Tryd.prog 20 #[.pointer (some ⟨b, 0, none⟩), .int .i64 i] w fun e w' => e = .returned (.int .i64 (r.d i : Nat)) ∧ w' = w := by
  obtain ⟨bm, bc, m, rfl, h⟩ := h
  exact vdrops_at i h
theorem zcursor (h : Z w K b r) : Calls Tryd.prog 23 #[.pointer (some ⟨b, 0, none⟩)] w fun e w' => e = .returned (.string ⟨r.cursor.toArray⟩) ∧ Keep w w' := by
  obtain ⟨bm, bc, m, rfl, h⟩ := h
  exact vcursor_at h
theorem zresume (s : List UInt8) (w : World) (hs : s.length ≤ maxLen) (ht : Tab w) : Calls Tryd.prog 28 #[.string ⟨s.toArray⟩] w fun e w' => Keep w w' ∧
    (((resumeF s).2 = 0 ∧ ∃ b K, e = .returned (.tuple #[.pointer (some ⟨b, 0, none⟩), .int .i64 0]) ∧ Z w' K b (resumeF s).1 ∧ From w.heap.size K) ∨ ((resumeF s).2 ≠ 0 ∧ e = .returned (.tuple #[.pointer none, .int .i64 (resumeF s).2]))) := by
  refine (resume_at s w hs ht).mono ?_
  rintro e w' ⟨k, ⟨h0, b, bm, bc, rfl, hs, h1, h2, h3⟩ | h⟩
  · refine ⟨k, .inl ⟨h0, b, _, rfl, ⟨bm, bc, none, rfl, hs⟩, ?_⟩⟩
    intro x hx
    simp only [blks, Option.toList_none, List.mem_cons, List.not_mem_nil, or_false] at hx
    omega
  · exact ⟨k, .inr h⟩
/-- Resumed from a cursor. -/
theorem zagain (h : Good r) (w : World) (ht : Tab w) : Calls Tryd.prog 28 #[.string ⟨r.cursor.toArray⟩] w fun e w' => ∃ b K, e = .returned (.tuple #[.pointer (some ⟨b, 0, none⟩), .int .i64 0]) ∧ Z w' K b r.core ∧ From w.heap.size K ∧ Keep w w' := by
  refine (zresume r.cursor w (by have := cursor_len h; unfold maxLen; omega) ht).mono ?_
  rw [resume_cursor h]
  rintro e w' ⟨k, ⟨_, b, K, rfl, hz, hf⟩ | ⟨h0, _⟩⟩
  · exact ⟨b, K, rfl, hz, hf, k⟩
  · exact absurd rfl h0
theorem ynew (a c : Int) (n : Nat) (h : mayR a c n) (w : World) (h0 : 0 < w.heap.size) : Calls Tryd.prog 13 #[.int .i64 a, .int .i64 c, .int .i64 n] w fun e w' => ∃ g K, e = .returned (.pointer (some ⟨g, 0, none⟩)) ∧ Y w' K g (newR a c n) ∧ From w.heap.size K ∧ Keep w w' := by
  refine (qnew_at a c n h w h0).mono ?_
  rintro e w' ⟨g, bi, bc, bd, rfl, hr, hz, k⟩
  exact ⟨g, _, rfl, ⟨bi, bc, bd, rfl, hr⟩, hz, k⟩
theorem ytake (f : Fr) (hs : SqF f) (h : Y w K g r) (hd : r.d (r.wrong f : Nat) < 9223372036854775807) : Calls Tryd.prog 15 #[.pointer (some ⟨g, 0, none⟩), .agg (fc f)] w fun e w' =>
    e = .returned (.int .i64 (r.wrong f : Nat)) ∧ Y w' K g (r.take f) ∧ Turn K w w' := by
  obtain ⟨bi, bc, bd, rfl, h⟩ := h
  refine (qtake_at f hs hd h).mono ?_
  rintro e w' ⟨rfl, hr, t⟩
  exact ⟨rfl, ⟨bi, bc, bd, rfl, hr⟩, t⟩
theorem yack (h : Y w K g r) : Calls Tryd.prog 17 #[.pointer (some ⟨g, 0, none⟩)] w fun e w' => e = .returned (.agg (fc r.ack)) ∧ Keep w w' := by
  obtain ⟨bi, bc, bd, rfl, h⟩ := h
  exact qack_at h
theorem ydata (h : Y w K g r) : Calls Tryd.prog 22 #[.pointer (some ⟨g, 0, none⟩)] w fun e w' => e = .returned (.tuple #[.string ⟨r.data.toArray⟩, .bool (decide r.full)]) ∧ w' = w := by
  obtain ⟨bi, bc, bd, rfl, h⟩ := h
  exact qdata_at h
theorem ycursor (h : Y w K g r) : Calls Tryd.prog 24 #[.pointer (some ⟨g, 0, none⟩)] w fun e w' => e = .returned (.string ⟨r.cursor.toArray⟩) ∧ Keep w w' := by
  obtain ⟨bi, bc, bd, rfl, h⟩ := h
  exact qcursor_at h
theorem yresume (s : List UInt8) (w : World) (hs : s.length ≤ maxLen) : Calls Tryd.prog 29 #[.string ⟨s.toArray⟩] w fun e w' => Keep w w' ∧
    (((resumeF s).2 = 0 ∧ ∃ g K, e = .returned (.tuple #[.pointer (some ⟨g, 0, none⟩), .int .i64 0]) ∧ Y w' K g (resumeF s).1 ∧ From w.heap.size K) ∨ ((resumeF s).2 ≠ 0 ∧ e = .returned (.tuple #[.pointer none, .int .i64 (resumeF s).2]))) := by
  refine (qresume_at s w hs).mono ?_
  rintro e w' ⟨k, ⟨h0, g, bi, bc, bd, rfl, hr, hz⟩ | h⟩
  · exact ⟨k, .inl ⟨h0, g, _, rfl, ⟨bi, bc, bd, rfl, hr⟩, hz⟩⟩
  · exact ⟨k, .inr h⟩
end
/-- A frame's numbers that are literals. -/
theorem sq_of {f : Fr} (h1 : 0 ≤ f.ses ∧ f.ses ≤ 1000) (h2 : 0 ≤ f.ep ∧ f.ep ≤ 1000) (h3 : 0 ≤ f.idx ∧ f.idx ≤ 1000) (h4 : 0 ≤ f.tot ∧ f.tot ≤ 1000) (h5 : f.data.length ≤ 1000000) : SqF f := ⟨by omega, by omega, by omega, by omega, by omega⟩

/-! ### The laws' own frames -/
def dF (i : Int) (s : List UInt8) : Fr := ⟨1, 7, 8, i, 3, s⟩
set_option maxRecDepth 100000 in
theorem data_at (i : Int) (s : List UInt8) (w : World) : Calls Tryd.prog 31 #[.int .i64 i, .string ⟨s.toArray⟩] w fun e w' => e = .returned (.agg (fc (dF i s))) ∧ Keep w w' := by
  obtain ⟨hz, _⟩ := zero_of_info infoF
  obtain ⟨n, hn⟩ : ∃ n, n = 6 := ⟨6, rfl⟩
  have hsz : ∀ w, (Go.sizeOf 32).run Tryd.prog w = .ok n w := fun w => by rw [hn]; exact Tryd.sizeOf32 w
  have hn0 : ¬ n = 0 := by omega
  have hF := FAt.new w zeroF
  have hst := hF.store (dF i s)
  have hl2 := (hF.put (dF i s)).whole hn
  have hb := build_frame 1 7 8 i 3 s
  have hzs : (fc (dF i s)).size = n := by rw [hn]; rfl
  have HK := Lib.hid (((Keep.refl w).alloc (.cells (fc zeroF) 32)).setRow w.heap.size (fc (dF i s)) (Nat.le_refl _))
  rw [show (⟨1, 7, 8, i, 3, s⟩ : Fr) = dF i s from rfl] at hb
  clear hF hn
  generalize fc zeroF = Z0 at *
  generalize fc (dF i s) = C at *
  go_enter Tryd.func31, Tryd.ntmps31
  go_wp2_with (refine at_build (t := 32) [(0, .int .i64 1), (1, .int .i64 7), (2, .int .i64 8), (3, .int .i64 i), (4, .int .i64 3), (5, .string ⟨s.toArray⟩)] rfl _ (hb _) ?_)
  refine bodyPost_ret (v := .agg C) ?_ rfl ⟨rfl, HK.out⟩
  simp [results, Tryd.results31, go_sem, hsz, hl2]
end Go.Proofs.YtifcibmpeolmdaaDoor
