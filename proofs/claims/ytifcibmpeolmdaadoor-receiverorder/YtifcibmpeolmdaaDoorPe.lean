/- Proved: what the receiver's New and Take answer, and what they do to memory. Condition: numbers are ints; the library's table is as its text lays it; the receiver lies in memory, its counts are below 2^63 - 1. -/
import Derived.Test.YtifcibmpeolmdaaDoorPd
namespace Go.Proofs.YtifcibmpeolmdaaDoor
open Go.RowKit

def z5 : Array Value := #[.int .i64 0, .int .i64 0, .slice none 0 0, .pointer none, .map none]
theorem infoV : (Tryd.prog.info? 70).map (fun i => (i.zero, i.size)) = some (some (.agg z5), 5) := by kernel_rfl
theorem underV : (Tryd.prog.underlying 70).bind (fun d => match d with | .struct fs => fs.toList.mapM (fun f => (Tryd.prog.info? f.type).map fun i => (f.offset, i.size)) | _ => none) = some [(0, 1), (1, 1), (2, 1), (3, 1), (4, 1)] := by kernel_rfl
theorem build_recv (x y : Int) (bc n bm : Nat) (w : World) : (Instr.build 70 #[(0, .int .i64 x), (1, .int .i64 y), (2, .slice (some ⟨bc, 0, none⟩) n n), (3, .pointer (some ⟨bm, 0, none⟩))]).run Tryd.prog w =
    .ok (.agg #[.int .i64 x, .int .i64 y, .slice (some ⟨bc, 0, none⟩) n n, .pointer (some ⟨bm, 0, none⟩), .map none]) w := by
  refine run_build w 70 _ _ ?_
  rw [built_of infoV underV]
  simp only [Value.cells]
  rw [fill_cell _ _ 0 _ _ rfl rfl (by decide), fill_cell _ _ 1 _ _ rfl rfl (by simp [z5]), fill_cell _ _ 2 _ _ rfl rfl (by simp [z5]), fill_cell _ _ 3 _ _ rfl rfl (by simp [z5]), Instr.fill]
  simp [z5]
def isI (x : Int) : Prop := -9223372036854775808 ≤ x ∧ x ≤ 9223372036854775807
theorem sq2 {a c : Int} (ha : isI a) (hc : isI c) : SqF ⟨2, a, c, 0, 0, []⟩ := ⟨ha, hc, ⟨by show -9223372036854775808 ≤ (0 : Int); omega, by show (0 : Int) ≤ 9223372036854775807; omega⟩, ⟨by show -9223372036854775808 ≤ (0 : Int); omega, by show (0 : Int) ≤ 9223372036854775807; omega⟩, by simp⟩
theorem right2 (a c : Int) : rightF ⟨2, a, c, 0, 0, []⟩ ↔ (0 ≤ a ∧ a < 4294967296) ∧ (0 ≤ c ∧ c < 4294967296) := by
  unfold rightF
  simp
set_option maxRecDepth 100000 in
set_option maxHeartbeats 1000000 in
theorem vnew_no (a c n : Int) (ha : isI a) (hc : isI c) (h : ¬ mayR a c n) (w : World) : Calls Tryd.prog 11 #[.int .i64 a, .int .i64 c, .int .i64 n] w fun e w' => e = .returned (.tuple #[.pointer none, .int .i64 1]) ∧ Keep w w' := by
  have HR : Hid (∀ w, Calls Tryd.prog 32 #[.agg #[.int .i64 2, .int .i64 a, .int .i64 c, .int .i64 0, .int .i64 0, .string ⟨#[]⟩]] w fun e w' => e = .returned (.bool (decide (rightF ⟨2, a, c, 0, 0, []⟩))) ∧ Keep w w') := Lib.hid (fun w => dright ⟨2, a, c, 0, 0, []⟩ (sq2 ha hc) w)
  by_cases hr : rightF ⟨2, a, c, 0, 0, []⟩
  · have hn : n < 1 ∨ 256 < n := by
      have h1 := (right2 a c).1 hr
      rcases Int.lt_or_le n 1 with q | q
      · exact .inl q
      · rcases Int.lt_or_le 256 n with q2 | q2
        · exact .inr q2
        · exact absurd ⟨h1.1, h1.2, q, q2⟩ h
    have HN := Lib.hid (fun w => new_bad n w hn)
    rw [decide_eq_true hr] at HR
    clear h hr hn ha hc
    go_enter Tryd.func11, Tryd.ntmps11
    go_wp2_with fail
    refine (HR.out _).mono ?_
    rintro e w1 ⟨rfl, k1⟩
    have HK := Lib.hid k1
    clear k1
    go_wp2_with fail
    refine (HN.out _).mono ?_
    rintro e w1 ⟨rfl, rfl⟩
    go_wp2
    go_ret2
    exact ⟨rfl, HK.out⟩
  · rw [decide_eq_false hr] at HR
    clear h hr ha hc
    go_enter Tryd.func11, Tryd.ntmps11
    go_wp2_with fail
    refine (HR.out _).mono ?_
    rintro e w1 ⟨rfl, k1⟩
    have HK := Lib.hid k1
    clear k1
    go_wp2
    go_ret2
    exact ⟨rfl, HK.out⟩
/-- A new one lies in memory. -/
theorem S.made {w w2 : World} {a c : Int} {n bm : Nat} (h : mayR a c n) (k2 : Keep w w2) (hm : M w2 bm (List.replicate n false)) (_hbm : w.heap.size ≤ bm) (_hp : 0 < w.heap.size) :
    S ((w2.alloc (.cells (tc (List.replicate n [])) 9)).alloc (.cells #[.int .i64 a, .int .i64 c, .slice (some ⟨w2.heap.size, 0, none⟩) n n, .pointer (some ⟨bm, 0, none⟩), .map none] 70)) (w2.heap.size + 1) bm w2.heap.size none (newR a c n) ∧
    Keep w ((w2.alloc (.cells (tc (List.replicate n [])) 9)).alloc (.cells #[.int .i64 a, .int .i64 c, .slice (some ⟨w2.heap.size, 0, none⟩) n n, .pointer (some ⟨bm, 0, none⟩), .map none] 70)) := by
  have k3 : Keep w2 (w2.alloc (.cells (tc (List.replicate n [])) 9)) := (Keep.refl _).alloc _
  have hb3 := heap_alloc_last w2 (.cells (tc (List.replicate n [])) 9)
  have hs3 : (w2.alloc (.cells (tc (List.replicate n [])) 9)).heap.size = w2.heap.size + 1 := by simp
  generalize w2.alloc (.cells (tc (List.replicate n [])) 9) = w3 at *
  have k4 : Keep w3 (w3.alloc (.cells #[.int .i64 a, .int .i64 c, .slice (some ⟨w2.heap.size, 0, none⟩) n n, .pointer (some ⟨bm, 0, none⟩), .map none] 70)) := (Keep.refl _).alloc _
  have hb4 := heap_alloc_last w3 (.cells #[.int .i64 a, .int .i64 c, .slice (some ⟨w2.heap.size, 0, none⟩) n n, .pointer (some ⟨bm, 0, none⟩), .map none] 70)
  rw [hs3] at hb4
  have hlt := hm.lt
  have hs2 := k2.size
  refine ⟨⟨?_, k4.obj hb3, (hm.keep k3).keep k4, .inl ⟨rfl, rfl⟩, by omega, by omega, fun x hx => (by cases hx), by omega, by omega, by omega, fun x hx => (by cases hx), Good.new h⟩, (k2.trans k3).trans k4⟩
  rw [hb4]
  simp [vc, newR]
set_option maxRecDepth 100000 in
set_option maxHeartbeats 1000000 in
theorem vnew_at (a c : Int) (n : Nat) (h : mayR a c n) (w : World) (ht : Tab w) : Calls Tryd.prog 11 #[.int .i64 a, .int .i64 c, .int .i64 n] w fun e w' => ∃ b bm bc, e = .returned (.tuple #[.pointer (some ⟨b, 0, none⟩), .int .i64 0]) ∧ S w' b bm bc none (newR a c n) ∧ w.heap.size ≤ b ∧ w.heap.size ≤ bm ∧ w.heap.size ≤ bc ∧ Keep w w' := by
  have hr : rightF ⟨2, a, c, 0, 0, []⟩ := (right2 a c).2 ⟨h.1, h.2.1⟩
  have HR : Hid (∀ w, Calls Tryd.prog 32 #[.agg #[.int .i64 2, .int .i64 a, .int .i64 c, .int .i64 0, .int .i64 0, .string ⟨#[]⟩]] w fun e w' => e = .returned (.bool (decide (rightF ⟨2, a, c, 0, 0, []⟩))) ∧ Keep w w') := Lib.hid (fun w => dright ⟨2, a, c, 0, 0, []⟩ (sq2 ⟨by have := h.1; omega, by have := h.1; omega⟩ ⟨by have := h.2.1; omega, by have := h.2.1; omega⟩) w)
  rw [decide_eq_true hr] at HR
  have HB2 := Lib.hid (build_recv a c)
  have HN := Lib.hid (fun w' (q : Keep w w') => new_at n (by have := h.2.2.1; omega) (by have := h.2.2.2; omega) w' (ht.keep q))
  have HM := Lib.hid (mk_texts n (by have := h.2.2.2; omega))
  have hp := Lib.hid ht.pos
  have HH := Lib.hid h
  clear hr ht h
  go_enter Tryd.func11, Tryd.ntmps11
  go_wp2_with fail
  refine (HR.out _).mono ?_
  rintro e w1 ⟨rfl, k1⟩
  have HK := Lib.hid k1
  clear k1
  go_wp2_with fail
  refine (HN.out _ HK.out).mono ?_
  rintro e w2 ⟨bm, rfl, hbm, hm, k2⟩
  have HM2 := Lib.hid hm
  have HK2 := Lib.hid (HK.out.trans k2)
  have HBM := Lib.hid (Nat.le_trans HK.out.size hbm)
  have hmk := HM.out w2
  have hsz : (w2.alloc (.cells (tc (List.replicate n [])) 9)).heap.size = w2.heap.size + 1 := by simp
  have HSM := Lib.hid (S.made HH.out HK2.out HM2.out HBM.out hp.out)
  clear hm k2 HK HR HN hbm
  generalize tc (List.replicate n []) = TC at *
  go_wp2_with ((with_reducible refine at_build (t := 70) [(0, .int .i64 a), (1, .int .i64 c), (2, .slice (some ⟨w2.heap.size, 0, none⟩) n n), (3, .pointer (some ⟨bm, 0, none⟩))] ?_ _ ?_ ?_); rfl; exact HB2.out _ _ _ _)
  go_ret2
  have hs := HK2.out.size
  exact ⟨_, _, _, rfl, HSM.out.1, by omega, HBM.out, hs, HSM.out.2⟩

section
variable {b bm bc : Nat} {m : Option Nat} {r : Rv} {w : World}
set_option maxRecDepth 100000 in
set_option maxHeartbeats 1000000 in
theorem vtake_at (f : Fr) (hs : SqF f) (hd : r.d (r.wrong f : Nat) < 9223372036854775807) (h : S w b bm bc m r) : Calls Tryd.prog 14 #[.pointer (some ⟨b, 0, none⟩), .agg (fc f)] w fun e w' =>
    e = .returned (.int .i64 (r.wrong f : Nat)) ∧ ∃ m', S w' b bm bc m' (r.take f) ∧ Turn (blks b bm bc m) w w' ∧ (m' = m ∨ ∃ k, m' = some k ∧ w.heap.size ≤ k) := by
  obtain ⟨n, hn⟩ : ∃ n, n = 6 := ⟨6, rfl⟩
  have hsz : ∀ w, (Go.sizeOf 32).run Tryd.prog w = .ok n w := fun w => by rw [hn]; exact Tryd.sizeOf32 w
  have hn0 : ¬ n = 0 := by omega
  have k1 : Keep w (w.alloc (.cells (fc f) 32)) := (Keep.refl w).alloc _
  have hA := FAt.new w f
  have hl := hA.whole hn
  have hS := h.keep k1
  have HV := Lib.hid (vwrong_at f hs hS)
  have HK := Lib.hid (fun w1 (k : Keep (w.alloc (.cells (fc f) 32)) w1) => k1.trans k)
  have HS := Lib.hid (fun w1 (k : Keep (w.alloc (.cells (fc f) 32)) w1) => hS.keep k)
  by_cases hw : r.wrong f = 0
  · obtain ⟨_, _, _, _, _, h0, hi, hdat, _⟩ := wrong_ok hw
    obtain ⟨k, hk⟩ := Int.eq_ofNat_of_zero_le h0
    have hkn : f.idx.toNat = k := by omega
    have HT := Lib.hid (take_yes hw)
    rw [hkn] at HT hi
    have HP := Lib.hid (fun v (q : S v b bm bc m r) => vkeep_at k f.data hi hdat q)
    have HF := Lib.hid (fun w1 (k' : Keep (w.alloc (.cells (fc f) 32)) w1) => (show w1.cell? ⟨w.heap.size, 3, none⟩ = some (.int .i64 (k : Nat)) ∧ w1.cell? ⟨w.heap.size, 5, none⟩ = some (.string ⟨f.data.toArray⟩) from ⟨by rw [← hk]; exact (hA.keep k').idx, (hA.keep k').data⟩))
    rw [hw] at HV ⊢
    clear hS h k1 hA hn hs hd hw hi hdat h0 hk hkn
    generalize fc f = C at *
    generalize f.data = dt at *
    go_enter Tryd.func14, Tryd.ntmps14
    go_wp2_with fail
    refine HV.out.mono ?_
    rintro e w1 ⟨rfl, q1⟩
    have HS1 := Lib.hid (HS.out w1 q1)
    have HK1 := Lib.hid (HK.out w1 q1)
    obtain ⟨c3, c5⟩ := HF.out w1 q1
    clear HV HS HK HF q1 hl
    go_wp2_with fail
    refine (HP.out w1 HS1.out).mono ?_
    rintro e w2 ⟨rfl, s2, t2⟩
    have H2 := Lib.hid (And.intro s2 (Turn.ofKeep HK1.out t2))
    clear HP HS1 HK1 c3 c5 s2 t2
    go_wp2
    go_ret
    exact ⟨rfl, m, by rw [HT.out]; exact H2.out.1, H2.out.2, .inl rfl⟩
  · have HT : Hid (r.take f = r.count (r.wrong f : Nat)) := Lib.hid (by unfold Rv.take; rw [if_neg hw])
    have HP := Lib.hid (fun v (q : S v b bm bc m r) => vcount_at (r.wrong f) hd q)
    have hne : (((r.wrong f : Nat) : Int) != 0) = true := by simp; omega
    clear hS h k1 hA hn hs hd hw
    generalize fc f = C at *
    generalize r.wrong f = W at *
    go_enter Tryd.func14, Tryd.ntmps14
    go_wp2_with fail
    refine HV.out.mono ?_
    rintro e w1 ⟨rfl, q1⟩
    have HS1 := Lib.hid (HS.out w1 q1)
    have HK1 := Lib.hid (HK.out w1 q1)
    clear HV HS HK q1 hl
    go_wp2_with fail
    refine (HP.out w1 HS1.out).mono ?_
    rintro e w2 ⟨rfl, m', s2, t2, hm⟩
    have H2 := Lib.hid (And.intro s2 (And.intro (Turn.ofKeep HK1.out t2) (show m' = m ∨ ∃ k, m' = some k ∧ w.heap.size ≤ k from hm.elim .inl fun ⟨k, e1, e2⟩ => .inr ⟨k, e1, Nat.le_trans HK1.out.size e2⟩)))
    clear HP HS1 HK1 s2 t2 hm
    go_wp2
    go_ret
    exact ⟨rfl, m', by rw [HT.out]; exact H2.out.1, H2.out.2.1, H2.out.2.2⟩
end
end Go.Proofs.YtifcibmpeolmdaaDoor
