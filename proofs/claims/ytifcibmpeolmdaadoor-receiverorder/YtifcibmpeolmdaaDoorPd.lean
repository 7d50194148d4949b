/- Proved: what the receiver's wrong answers. Condition: the receiver lies in memory; the frame's numbers are ints. -/
import Derived.Test.YtifcibmpeolmdaaDoorPh
namespace Go.Proofs.YtifcibmpeolmdaaDoor
open Go.RowKit

section
variable {b bm bc : Nat} {m : Option Nat} {g bi bd : Nat} {r : Rv} {w : World}
set_option maxRecDepth 100000 in
set_option maxHeartbeats 1000000 in
theorem vwrong_at (f : Fr) (hs : SqF f) (h : S w b bm bc m r) : Calls Tryd.prog 34 #[.pointer (some ⟨b, 0, none⟩), .agg (fc f)] w fun e w' => e = .returned (.int .i64 (r.wrong f : Nat)) ∧ Keep w w' := by
  obtain ⟨n, hn⟩ : ∃ n, n = 6 := ⟨6, rfl⟩
  have hsz : ∀ w, (Go.sizeOf 32).run Tryd.prog w = .ok n w := fun w => by rw [hn]; exact Tryd.sizeOf32 w
  have hn0 : ¬ n = 0 := by omega
  have k1 : Keep w (w.alloc (.cells (fc f) 32)) := (Keep.refl w).alloc _
  have hA := FAt.new w f
  have hl := hA.whole hn
  have a0 := hA.kind
  have HF := Lib.hid (fun w1 (k : Keep (w.alloc (.cells (fc f) 32)) w1) => hA.keep k)
  have HS := Lib.hid (fun w1 (k : Keep (w.alloc (.cells (fc f) 32)) w1) => (h.keep k1).keep k)
  have HK := Lib.hid (fun w1 (k : Keep (w.alloc (.cells (fc f) 32)) w1) => k1.trans k)
  have HR := Lib.hid (dright f hs)
  have hd := hs.data
  clear k1 hA h hs hn
  obtain ⟨W, hW⟩ : ∃ W, r.wrong f = W := ⟨_, rfl⟩
  have HW := Lib.hid hW
  rw [hW]
  clear hW
  by_cases g1 : f.kind = 1
  rotate_left
  · have e : W = 1 := by rw [← HW.out]; unfold Rv.wrong; rw [if_pos (.inl g1)]
    subst e
    have hne : (f.kind != 1) = true := by simpa using g1
    clear g1 HW
    generalize fc f = C at *
    generalize f.kind = kd at *
    go_enter Tryd.func34, Tryd.ntmps34
    go_wp2
    go_ret
    exact ⟨rfl, HK.out _ (Keep.refl _)⟩
  have hne : (f.kind != 1) = false := by simpa using g1
  generalize fc f = C at *
  go_enter Tryd.func34, Tryd.ntmps34
  go_wp2_with fail
  refine (HR.out _).mono ?_
  rintro e w1 ⟨rfl, q1⟩
  have K1 := Lib.hid q1
  clear q1 hl a0 HR
  by_cases g2 : rightF f
  rotate_left
  · have e : W = 1 := by rw [← HW.out]; unfold Rv.wrong; rw [if_pos (.inr g2)]
    subst e
    rw [decide_eq_false g2]
    clear g1 g2 HW
    go_wp2
    go_ret
    exact ⟨rfl, HK.out _ K1.out⟩
  rw [decide_eq_true g2]
  have g12 : ¬ (f.kind ≠ 1 ∨ ¬ rightF f) := fun q => q.elim (fun q => q g1) (fun q => q g2)
  have G12 := Lib.hid g12
  have hix : 0 ≤ f.idx := g2.2.2.2.1.1
  clear g1 g2 g12
  have a1 : ∀ u : KW w1, u.1.cell? ⟨w.heap.size, 1, none⟩ = some (.int .i64 f.ses) := fun u => (HF.out _ (K1.out.trans u.2)).ses
  have a2 : ∀ u : KW w1, u.1.cell? ⟨b, 0, none⟩ = some (.int .i64 r.ses) := fun u => (HS.out _ (K1.out.trans u.2)).ses
  by_cases g3 : f.ses = r.ses
  rotate_left
  · have e : W = 12 := by rw [← HW.out]; unfold Rv.wrong; rw [if_neg G12.out, if_pos g3]
    subst e
    have hn3 : (f.ses != r.ses) = true := by simpa using g3
    clear g3 HW
    go_wp2_with fail
    refine wp_region_keep (Keep.refl _) (by kernel_rfl) (by kernel_rfl) ?_
    repeat (first | go_big_quiet_step (fail) | quiet_step (fail))
    refine wpQuiet_nil ?_
    rintro v4 ⟨⟨v5, k5⟩, hv⟩
    obtain rfl : v5 = v4 := hv.symm
    clear a1 a2
    go_wp2
    go_ret
    exact ⟨rfl, HK.out _ (K1.out.trans k5)⟩
  have hn3 : (f.ses != r.ses) = false := by simpa using g3
  have Hg3 := Lib.hid g3
  clear g3

  go_wp2_with fail
  refine wp_region_keep (Keep.refl _) (by kernel_rfl) (by kernel_rfl) ?_
  repeat (first | go_big_quiet_step (fail) | quiet_step (fail))
  refine wpQuiet_nil ?_
  rintro v4 ⟨⟨v5, k5⟩, hv⟩
  obtain rfl : v5 = v4 := hv.symm
  have K2 := Lib.hid (K1.out.trans k5)
  clear a1 a2 hn3 k5 hv
  generalize v5 = w2 at *
  have a1 : ∀ u : KW w2, u.1.cell? ⟨w.heap.size, 2, none⟩ = some (.int .i64 f.ep) := fun u => (HF.out _ (K2.out.trans u.2)).ep
  have a2 : ∀ u : KW w2, u.1.cell? ⟨b, 1, none⟩ = some (.int .i64 r.ep) := fun u => (HS.out _ (K2.out.trans u.2)).ep
  by_cases g4 : f.ep = r.ep
  rotate_left
  · have e : W = 13 := by rw [← HW.out]; unfold Rv.wrong; rw [if_neg G12.out, if_neg (fun q => q Hg3.out), if_pos g4]
    subst e
    have hn3 : (f.ep != r.ep) = true := by simpa using g4
    clear g4 HW
    go_wp2_with fail
    refine wp_region_keep (Keep.refl _) (by kernel_rfl) (by kernel_rfl) ?_
    repeat (first | go_big_quiet_step (fail) | quiet_step (fail))
    refine wpQuiet_nil ?_
    rintro v4 ⟨⟨v5, k5⟩, hv⟩
    obtain rfl : v5 = v4 := hv.symm
    clear a1 a2
    go_wp2
    go_ret
    exact ⟨rfl, HK.out _ (K2.out.trans k5)⟩
  have hn3 : (f.ep != r.ep) = false := by simpa using g4
  have Hg4 := Lib.hid g4
  clear g4

  go_wp2_with fail
  refine wp_region_keep (Keep.refl _) (by kernel_rfl) (by kernel_rfl) ?_
  repeat (first | go_big_quiet_step (fail) | quiet_step (fail))
  refine wpQuiet_nil ?_
  rintro v4 ⟨⟨v5, k5⟩, hv⟩
  obtain rfl : v5 = v4 := hv.symm
  have K3 := Lib.hid (K2.out.trans k5)
  clear a1 a2 hn3 k5 hv
  generalize v5 = w3 at *
  have a1 : ∀ u : KW w3, u.1.cell? ⟨w.heap.size, 4, none⟩ = some (.int .i64 f.tot) := fun u => (HF.out _ (K3.out.trans u.2)).tot
  have a2 : ∀ u : KW w3, u.1.cell? ⟨b, 2, none⟩ = some (.slice (some ⟨bc, 0, none⟩) r.c.length r.c.length) := fun u => (HS.out _ (K3.out.trans u.2)).list
  have a3 : ∀ u : KW w3, u.1.cell? ⟨w.heap.size, 3, none⟩ = some (.int .i64 f.idx) := fun u => (HF.out _ (K3.out.trans u.2)).idx
  by_cases g5 : f.tot = (r.c.length : Int)
  rotate_left
  · have e : W = 14 := by rw [← HW.out]; unfold Rv.wrong; rw [if_neg G12.out, if_neg (fun q => q Hg3.out), if_neg (fun q => q Hg4.out), if_pos (.inl g5)]
    subst e
    have hn3 : (f.tot != (r.c.length : Int)) = true := by simpa using g5
    clear g5 HW
    go_wp2_with fail
    refine wp_region_keep (Keep.refl _) (by kernel_rfl) (by kernel_rfl) ?_
    repeat (first | go_big_quiet_step (fail) | quiet_step (fail))
    refine wpQuiet_nil ?_
    rintro v4 ⟨⟨v5, k5⟩, hv⟩
    obtain rfl : v5 = v4 := hv.symm
    clear a1 a2 a3
    go_wp2
    go_ret
    exact ⟨rfl, HK.out _ (K3.out.trans k5)⟩
  have hn3 : (f.tot != (r.c.length : Int)) = false := by simpa using g5
  by_cases g6 : f.tot ≤ f.idx
  · have e : W = 14 := by rw [← HW.out]; unfold Rv.wrong; rw [if_neg G12.out, if_neg (fun q => q Hg3.out), if_neg (fun q => q Hg4.out), if_pos (.inr g6)]
    subst e
    have hn4 : decide (f.idx ≥ f.tot) = true := decide_eq_true g6
    clear g5 g6 HW
    go_wp2_with fail
    refine wp_region_keep (Keep.refl _) (by kernel_rfl) (by kernel_rfl) ?_
    repeat (first | go_big_quiet_step (fail) | quiet_step (fail))
    refine wpQuiet_nil ?_
    rintro v4 ⟨⟨v5, k5⟩, hv⟩
    obtain rfl : v5 = v4 := hv.symm
    clear a1 a2 a3
    go_wp2
    go_ret
    exact ⟨rfl, HK.out _ (K3.out.trans k5)⟩
  have hn4 : decide (f.idx ≥ f.tot) = false := decide_eq_false g6
  have G56 := Lib.hid (show ¬ (f.tot ≠ (r.c.length : Int) ∨ f.tot ≤ f.idx) from fun q => q.elim (fun q => q g5) g6)
  have hlt : f.idx.toNat < r.c.length := by omega
  have Hlt := Lib.hid hlt
  clear g5 g6 hlt
  go_wp2_with fail
  refine wp_region_keep (Keep.refl _) (by kernel_rfl) (by kernel_rfl) ?_
  repeat (first | go_big_quiet_step (fail) | quiet_step (fail))
  refine wpQuiet_nil ?_
  rintro v4 ⟨⟨v5, k5⟩, hv⟩
  obtain rfl : v5 = v4 := hv.symm
  have K4 := Lib.hid (K3.out.trans k5)
  clear a1 a2 a3 hn3 hn4 k5 hv
  generalize v5 = w4 at *
  have a5 := (HF.out _ K4.out).data
  by_cases g7 : 1000 < f.data.length
  · have e : W = 7 := by rw [← HW.out]; unfold Rv.wrong; rw [if_neg G12.out, if_neg (fun q => q Hg3.out), if_neg (fun q => q Hg4.out), if_neg G56.out, if_pos g7]
    subst e
    have hg : (f.data.length : Int) > 1000 := by omega
    clear g7 HW
    go_wp2
    go_ret
    exact ⟨rfl, HK.out _ K4.out⟩
  have hg : ¬ ((f.data.length : Int) > 1000) := by omega
  have Hg7 := Lib.hid g7
  clear g7
  obtain ⟨k, hk⟩ := Int.eq_ofNat_of_zero_le hix
  have hkn : f.idx.toNat = k := by omega
  have Hkn := Lib.hid hkn
  have a1 : ∀ u : KW w4, u.1.cell? ⟨b, 3, none⟩ = some (.pointer (some ⟨bm, 0, none⟩)) := fun u => (HS.out _ (K4.out.trans u.2)).ptr
  have a3 : ∀ u : KW w4, u.1.cell? ⟨w.heap.size, 3, none⟩ = some (.int .i64 f.idx) := fun u => (HF.out _ (K4.out.trans u.2)).idx
  have hB0 : hasB r.l f.idx = r.l.getD k false := by unfold hasB; rw [decide_eq_true hix, Hkn.out]; rfl
  obtain ⟨B, hB⟩ : ∃ B, r.l.getD k false = B := ⟨_, rfl⟩
  have HH := Lib.hid (fun w' (q : Keep w4 w') => has_at bm r.l f.idx w' (HS.out _ (K4.out.trans q)).map)
  rw [hB0, hB] at HH
  have e : W = if B then 9 else 0 := by rw [← HW.out]; unfold Rv.wrong; rw [if_neg G12.out, if_neg (fun q => q Hg3.out), if_neg (fun q => q Hg4.out), if_neg G56.out, if_neg Hg7.out, Hkn.out, hB]
  clear HW hkn hk hB hix hB0
  go_wp2_with fail
  refine wp_region_keep (Keep.refl _) (by kernel_rfl) (by kernel_rfl) ?_
  repeat (first | go_big_quiet_step (fail) | quiet_step (fail))
  first | go_big_quiet_step (exact keep_at HH.out _) | quiet_step (exact keep_at HH.out _)
  repeat (first | go_big_quiet_step (fail) | quiet_step (fail))
  refine wpQuiet_nil ?_
  rintro v4 ⟨⟨v5, k5⟩, hv⟩
  obtain rfl : v5 = v4 := hv.symm
  have K5 := Lib.hid (K4.out.trans k5)
  clear a1 a3 a5 k5 hv hg HH
  subst e
  cases B
  · go_wp2
    go_ret
    exact ⟨rfl, HK.out _ K5.out⟩
  · go_wp2
    go_ret
    exact ⟨rfl, HK.out _ K5.out⟩
end
end Go.Proofs.YtifcibmpeolmdaaDoor

/- Proved: what the receiver's Ack answers. Condition: the receiver lies in memory, or is none. -/
namespace Go.Proofs.YtifcibmpeolmdaaDoor
open Go.RowKit

section
variable {b bm bc : Nat} {m : Option Nat} {g bi bd : Nat} {r : Rv} {w : World}
set_option maxRecDepth 100000 in
set_option maxHeartbeats 1000000 in
theorem vack_at (h : S w b bm bc m r) : Calls Tryd.prog 16 #[.pointer (some ⟨b, 0, none⟩)] w fun e w' => e = .returned (.agg (fc r.ack)) ∧ Keep w w' := by
  obtain ⟨hz, _⟩ := zero_of_info infoF
  obtain ⟨n, hn⟩ : ∃ n, n = 6 := ⟨6, rfl⟩
  have hsz : ∀ w, (Go.sizeOf 32).run Tryd.prog w = .ok n w := fun w => by rw [hn]; exact Tryd.sizeOf32 w
  have hn0 : ¬ n = 0 := by omega
  have Hn := Lib.hid hn
  clear hn
  have k1 : Keep w (w.alloc (.cells (fc zeroF) 32)).drew := ((Keep.refl w).alloc _).drew
  have hF : FAt (w.alloc (.cells (fc zeroF) 32)).drew w.heap.size zeroF := (FAt.new w zeroF).keep (Keep.refl _).drew
  have hsize : (w.alloc (.cells (fc zeroF) 32)).drew.heap.size = w.heap.size + 1 := by simp
  generalize hy : (w.alloc (.cells (fc zeroF) 32)).drew = y at *
  have HY := Lib.hid hy
  have HS := Lib.hid (fun v (q : Turn [w.heap.size] y v) => (h.keep k1).turn q (by simp; have := h.map.tab.pos; omega) (by simp; have := h.lt; omega) (by simp; have := h.ltm; omega) (by simp; have := h.ltc; omega) (fun x hx => by simp; have := h.cnt.lt x hx; omega))
  have a0 : ∀ u : PW (PhF y w.heap.size r.ack), u.1.cell? ⟨b, 0, none⟩ = some (.int .i64 r.ses) := PhF.all (X := fun v => v.cell? ⟨b, 0, none⟩ = some (.int .i64 r.ses)) (fun v q => (HS.out v q).ses)
  have a1 : ∀ u : PW (PhF y w.heap.size r.ack), u.1.cell? ⟨b, 1, none⟩ = some (.int .i64 r.ep) := PhF.all (X := fun v => v.cell? ⟨b, 1, none⟩ = some (.int .i64 r.ep)) (fun v q => (HS.out v q).ep)
  have a2 : ∀ u : PW (PhF y w.heap.size r.ack), u.1.cell? ⟨b, 3, none⟩ = some (.pointer (some ⟨bm, 0, none⟩)) := PhF.all (X := fun v => v.cell? ⟨b, 3, none⟩ = some (.pointer (some ⟨bm, 0, none⟩))) (fun v q => (HS.out v q).ptr)
  have a3 : ∀ u : PW (PhF y w.heap.size r.ack), u.1.cell? ⟨b, 2, none⟩ = some (.slice (some ⟨bc, 0, none⟩) r.c.length r.c.length) := PhF.all (X := fun v => v.cell? ⟨b, 2, none⟩ = some (.slice (some ⟨bc, 0, none⟩) r.c.length r.c.length)) (fun v q => (HS.out v q).list)
  have H1 : Hid (∀ (q : Nat) (v : World), PhF y w.heap.size r.ack q v → Calls Tryd.prog 38 #[.pointer (some ⟨bm, 0, none⟩)] v fun e w' => e = .returned (.int .i64 (baseN r.l : Nat)) ∧ PhF y w.heap.size r.ack q w') := Lib.hid (fun q v hv => (mbase_at bm r.l v (HS.out v (PhF.turn q hv)).map).mono fun e w' ⟨e1, e2⟩ => ⟨e1, by rw [e2]; exact hv⟩)
  have H2 : Hid (∀ (q : Nat) (v : World), PhF y w.heap.size r.ack q v → Calls Tryd.prog 39 #[.pointer (some ⟨bm, 0, none⟩), .int .i64 16] v fun e w' => e = .returned (.string ⟨(behB r.l 16).toArray⟩) ∧ PhF y w.heap.size r.ack q w') := Lib.hid (fun q v hv => (behind_at bm r.l 16 v (HS.out v (PhF.turn q hv)).map).mono fun e w' ⟨e1, e2⟩ => ⟨e1, PhF.keep q hv e2⟩)
  have HB := Lib.hid (fun w => build_frame 2 r.ses r.ep (baseN r.l : Nat) r.c.length (behB r.l 16) w)
  have HW := Lib.hid (fun v (q : Keep y v) => And.intro ((hF.keep q).store r.ack) (And.intro (show Turn [w.heap.size] y (v.setRow w.heap.size (fc r.ack)) from (Turn.keep _ q).trans (Turn.only ⟨rfl, rfl, rfl, by simp [World.setRow], fun k _ hk => by simp only [World.setRow, Array.getElem?_modify]; rw [if_neg (fun e => hk e.symm)]⟩ (by simp))) ((hF.keep q).put r.ack)))
  have HE := Lib.hid (fun v (q : Turn [w.heap.size] y v) => (Turn.made k1 q (fun b hb => by simp at hb; omega) : Keep w v))
  have HL := Lib.hid (fun v (q : FAt v w.heap.size r.ack) => q.whole Hn.out)
  have HA : Hid (r.ack = ⟨2, r.ses, r.ep, (baseN r.l : Nat), (r.c.length : Nat), behB r.l 16⟩) := Lib.hid rfl
  rw [← HA.out] at HB
  have hzs : (fc r.ack).size = n := by rw [Hn.out]; rfl
  clear h k1 hF hsize hy HA
  generalize r.c.length = N at *
  generalize baseN r.l = bn at *
  generalize behB r.l 16 = bh at *
  generalize r.ses = s1 at *
  generalize r.ep = s2 at *
  generalize r.ack = F at *
  generalize fc zeroF = Z at *
  go_enter Tryd.func16, Tryd.ntmps16
  go_wp2_with fail
  refine wp_region_ph (A := isMade) (C := PhF y w.heap.size F) (by kernel_rfl) (by kernel_rfl) (by kernel_rfl) (by rw [HY.out]; exact Keep.refl _) ?_
  repeat (first | (refine ph_quiet (by rfl) ?_; (first | go_big_quiet_step (fail) | quiet_step (fail)); refine wpQuiet_nil ?_) | (refine ph_check rfl ?_; simp only [Act.put, List.setIfInBounds_toArray, List.set_cons_zero, List.set_cons_succ]))
  refine ph_call rfl H1.out (fun w => by go_simp) ?_
  simp only [Act.put, List.setIfInBounds_toArray, List.set_cons_zero, List.set_cons_succ]
  repeat (first | (refine ph_quiet (by rfl) ?_; (first | go_big_quiet_step (fail) | quiet_step (fail)); refine wpQuiet_nil ?_) | (refine ph_check rfl ?_; simp only [Act.put, List.setIfInBounds_toArray, List.set_cons_zero, List.set_cons_succ]))
  refine ph_call rfl H2.out (fun w => by go_simp) ?_
  simp only [Act.put, List.setIfInBounds_toArray, List.set_cons_zero, List.set_cons_succ]
  refine ph_build rfl 32 _ rfl _ rfl (.agg (fc F)) HB.out ?_
  simp only [Act.put, List.setIfInBounds_toArray, List.set_cons_zero, List.set_cons_succ]
  refine ph_write rfl rfl (fun w1 => w1.setRow w.heap.size (fc F)) (fun w1 hw => ?_) ?_
  · obtain ⟨p1, p2, p3⟩ := HW.out w1 hw
    refine ⟨?_, p2, p3⟩
    generalize fc F = C at *
    go_simp
  simp only [Act.put]
  refine ph_nil ?_
  intro w9 h9
  have h9' : Turn [w.heap.size] y w9 ∧ FAt w9 w.heap.size F := h9
  have HK9 := Lib.hid (HE.out w9 h9'.1)
  have hl2 := HL.out w9 h9'.2
  clear h9 h9' a0 a1 a2 a3 HW HL H1 H2
  go_wp2
  refine bodyPost_ret (v := .agg (fc F)) ?_ rfl ⟨rfl, HK9.out⟩
  simp [results, Tryd.results16, go_sem, hsz, hl2]

set_option maxRecDepth 100000 in
theorem vack_nil (w : World) : Calls Tryd.prog 16 #[.pointer none] w fun e w' => e = .returned (.agg (fc zeroF)) ∧ Keep w w' := by
  obtain ⟨hz, _⟩ := zero_of_info infoF
  obtain ⟨n, hn⟩ : ∃ n, n = 6 := ⟨6, rfl⟩
  have hsz : ∀ w, (Go.sizeOf 32).run Tryd.prog w = .ok n w := fun w => by rw [hn]; exact Tryd.sizeOf32 w
  have hn0 : ¬ n = 0 := by omega
  have hF := FAt.new w zeroF
  have hst := hF.store zeroF
  have hl2 := (hF.put zeroF).whole hn
  have hb := build_zero
  have hzs : (fc zeroF).size = n := by rw [hn]; rfl
  have HK := Lib.hid (((Keep.refl w).alloc (.cells (fc zeroF) 32)).setRow w.heap.size (fc zeroF) (Nat.le_refl _))
  clear hF hn
  generalize fc zeroF = Z at *
  go_enter Tryd.func16, Tryd.ntmps16
  go_wp2_with ((with_reducible refine at_build (t := 32) [] ?_ _ ?_ ?_); rfl; exact hb _)
  refine bodyPost_ret (v := .agg Z) ?_ rfl ⟨rfl, HK.out⟩
  simp [results, Tryd.results16, go_sem, hsz, hl2]
end
end Go.Proofs.YtifcibmpeolmdaaDoor
