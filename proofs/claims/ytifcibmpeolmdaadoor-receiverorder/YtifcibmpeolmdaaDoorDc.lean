/- Proved: what the document's Ack answers. Condition: the receiver lies in memory. -/
import Derived.Test.YtifcibmpeolmdaaDoorDb
namespace Go.Proofs.YtifcibmpeolmdaaDoor
open Go.RowKit

section
variable {b bm bc : Nat} {m : Option Nat} {g bi bd : Nat} {r : Rv} {w : World}
set_option maxRecDepth 100000 in
set_option maxHeartbeats 1000000 in
theorem qack_at (h : R w g bi bc bd r) : Calls Tryd.prog 17 #[.pointer (some ⟨g, 0, none⟩)] w fun e w' => e = .returned (.agg (fc r.ack)) ∧ Keep w w' := by
  obtain ⟨hz, _⟩ := zero_of_info infoF
  obtain ⟨n, hn⟩ : ∃ n, n = 6 := ⟨6, rfl⟩
  have hsz : ∀ w, (Go.sizeOf 32).run Tryd.prog w = .ok n w := fun w => by rw [hn]; exact Tryd.sizeOf32 w
  have hn0 : ¬ n = 0 := by omega
  have Hn := Lib.hid hn
  clear hn
  have k1 : Keep w (w.alloc (.cells (fc zeroF) 32)).drew := ((Keep.refl w).alloc _).drew
  have hF : FAt (w.alloc (.cells (fc zeroF) 32)).drew w.heap.size zeroF := (FAt.new w zeroF).keep (Keep.refl _).drew
  have hsize : (w.alloc (.cells (fc zeroF) 32)).drew.heap.size = w.heap.size + 1 := by simp
  generalize hy : (w.alloc (.cells (fc zeroF) 32)).drew = y at *
  have HY := Lib.hid hy
  have HS := Lib.hid (fun v (q : Turn [w.heap.size] y v) => (h.keep k1).turn q (by simp; have := h.low g (by simp); omega) (by simp; have := h.low bi (by simp); omega) (by simp; have := h.low bc (by simp); omega) (by simp; have := h.low bd (by simp); omega))
  have a0 : ∀ u : PW (PhF y w.heap.size r.ack), u.1.cell? ⟨g, 0, none⟩ = some (.int .i64 r.ses) := PhF.all (X := fun v => v.cell? ⟨g, 0, none⟩ = some (.int .i64 r.ses)) (fun v q => (HS.out v q).ses)
  have a1 : ∀ u : PW (PhF y w.heap.size r.ack), u.1.cell? ⟨g, 1, none⟩ = some (.int .i64 r.ep) := PhF.all (X := fun v => v.cell? ⟨g, 1, none⟩ = some (.int .i64 r.ep)) (fun v q => (HS.out v q).ep)
  have a2 : ∀ u : PW (PhF y w.heap.size r.ack), u.1.cell? ⟨g, 2, none⟩ = some (.slice (some ⟨bi, 0, none⟩) r.c.length r.c.length) := PhF.all (X := fun v => v.cell? ⟨g, 2, none⟩ = some (.slice (some ⟨bi, 0, none⟩) r.c.length r.c.length)) (fun v q => (HS.out v q).i)
  have a3 : ∀ u : PW (PhF y w.heap.size r.ack), u.1.cell? ⟨g, 3, none⟩ = some (.slice (some ⟨bc, 0, none⟩) r.c.length r.c.length) := PhF.all (X := fun v => v.cell? ⟨g, 3, none⟩ = some (.slice (some ⟨bc, 0, none⟩) r.c.length r.c.length)) (fun v q => (HS.out v q).c)
  have H1 : Hid (∀ (q : Nat) (v : World), PhF y w.heap.size r.ack q v → Calls Tryd.prog 19 #[.slice (some ⟨bi, 0, none⟩) r.c.length r.c.length] v fun e w' => e = .returned (.int .i64 (baseN r.l : Nat)) ∧ PhF y w.heap.size r.ack q w') := Lib.hid (fun q v hv => (qbase _ r.l v (HS.out v (PhF.turn q hv)).bools (by rw [h.good.len]; exact h.good.few)).mono fun e w' ⟨e1, e2⟩ => ⟨e1, by rw [e2]; exact hv⟩)
  have H2 : Hid (∀ (q : Nat) (v : World), PhF y w.heap.size r.ack q v → Calls Tryd.prog 40 #[.slice (some ⟨bi, 0, none⟩) r.c.length r.c.length, .int .i64 16] v fun e w' => e = .returned (.string ⟨(behB r.l 16).toArray⟩) ∧ PhF y w.heap.size r.ack q w') := Lib.hid (fun q v hv => (qbehind _ r.l 16 v (HS.out v (PhF.turn q hv)).bools (by rw [h.good.len]; exact h.good.few)).mono fun e w' ⟨e1, e2⟩ => ⟨e1, PhF.keep q hv e2⟩)
  have HB := Lib.hid (fun w => build_frame 2 r.ses r.ep (baseN r.l : Nat) r.c.length (behB r.l 16) w)
  have HW := Lib.hid (fun v (q : Keep y v) => And.intro ((hF.keep q).store r.ack) (And.intro (show Turn [w.heap.size] y (v.setRow w.heap.size (fc r.ack)) from (Turn.keep _ q).trans (Turn.only ⟨rfl, rfl, rfl, by simp [World.setRow], fun k _ hk => by simp only [World.setRow, Array.getElem?_modify]; rw [if_neg (fun e => hk e.symm)]⟩ (by simp))) ((hF.keep q).put r.ack)))
  have HE := Lib.hid (fun v (q : Turn [w.heap.size] y v) => (Turn.made k1 q (fun b hb => by simp at hb; omega) : Keep w v))
  have HL := Lib.hid (fun v (q : FAt v w.heap.size r.ack) => q.whole Hn.out)
  have HA : Hid (r.ack = ⟨2, r.ses, r.ep, (baseN r.l : Nat), (r.c.length : Nat), behB r.l 16⟩) := Lib.hid rfl
  rw [← HA.out] at HB
  have hzs : (fc r.ack).size = n := by rw [Hn.out]; rfl
  clear h k1 hF hsize hy HA
  generalize r.c.length = N at *
  generalize baseN r.l = bn at *
  generalize behB r.l 16 = bh at *
  generalize r.ses = s1 at *
  generalize r.ep = s2 at *
  generalize r.ack = F at *
  generalize fc zeroF = Z at *
  go_enter Tryd.func17, Tryd.ntmps17
  go_wp2_with fail
  refine wp_region_ph (A := isMade) (C := PhF y w.heap.size F) (by kernel_rfl) (by kernel_rfl) (by kernel_rfl) (by rw [HY.out]; exact Keep.refl _) ?_
  repeat (first | (refine ph_quiet (by rfl) ?_; (first | go_big_quiet_step (fail) | quiet_step (fail)); refine wpQuiet_nil ?_) | (refine ph_check rfl ?_; simp only [Act.put, List.setIfInBounds_toArray, List.set_cons_zero, List.set_cons_succ]))
  refine ph_call rfl H1.out (fun w => by go_simp) ?_
  simp only [Act.put, List.setIfInBounds_toArray, List.set_cons_zero, List.set_cons_succ]
  repeat (first | (refine ph_quiet (by rfl) ?_; (first | go_big_quiet_step (fail) | quiet_step (fail)); refine wpQuiet_nil ?_) | (refine ph_check rfl ?_; simp only [Act.put, List.setIfInBounds_toArray, List.set_cons_zero, List.set_cons_succ]))
  refine ph_call rfl H2.out (fun w => by go_simp) ?_
  simp only [Act.put, List.setIfInBounds_toArray, List.set_cons_zero, List.set_cons_succ]
  refine ph_build rfl 32 _ rfl _ rfl (.agg (fc F)) HB.out ?_
  simp only [Act.put, List.setIfInBounds_toArray, List.set_cons_zero, List.set_cons_succ]
  refine ph_write rfl rfl (fun w1 => w1.setRow w.heap.size (fc F)) (fun w1 hw => ?_) ?_
  · obtain ⟨p1, p2, p3⟩ := HW.out w1 hw
    refine ⟨?_, p2, p3⟩
    generalize fc F = C at *
    go_simp
  simp only [Act.put]
  refine ph_nil ?_
  intro w9 h9
  have h9' : Turn [w.heap.size] y w9 ∧ FAt w9 w.heap.size F := h9
  have HK9 := Lib.hid (HE.out w9 h9'.1)
  have hl2 := HL.out w9 h9'.2
  clear h9 h9' a0 a1 a2 a3 HW HL H1 H2
  go_wp2
  refine bodyPost_ret (v := .agg (fc F)) ?_ rfl ⟨rfl, HK9.out⟩
  simp [results, Tryd.results17, go_sem, hsz, hl2]
end
end Go.Proofs.YtifcibmpeolmdaaDoor
