/- Proved: what table's order and Right, and the document's Right answer; routes compared by the language's own '=='. No condition. -/
import Derived.Test.YtgocmolebanflaaE
namespace Go.Proofs.Ytgocmolebanflaa
open Go.RowKit

def rightR (r : Rt) : Prop := rightP r.to ∧ 0 ≤ r.metric ∧ r.metric < 65535
instance (r : Rt) : Decidable (rightR r) := by unfold rightR; infer_instance

theorem two_rt (w : World) (a b : Rt) : RAt ((w.alloc (.cells (rc a) 34)).alloc (.cells (rc b) 34)) w.heap.size a ∧ RAt ((w.alloc (.cells (rc a) 34)).alloc (.cells (rc b) 34)) (w.heap.size + 1) b ∧ Same w ((w.alloc (.cells (rc a) 34)).alloc (.cells (rc b) 34)) := by
  have hs : (w.alloc (.cells (rc a) 34)).heap.size = w.heap.size + 1 := by simp
  refine ⟨alloc_old (RAt.new w a) _, ?_, ((Same.refl w).alloc _).alloc _⟩
  rw [← hs]
  exact RAt.new _ _

set_option maxRecDepth 100000 in
theorem order (a b : Rt) : Gives Try.prog 37 #[.agg (rc a), .agg (rc b)] (.int .i64 (cmpP a.to b.to)) := by
  intro w
  obtain ⟨hA, hB, hS⟩ := two_rt w a b
  have HC := Lib.hid (compare a.to b.to a.ok b.ok)
  obtain ⟨n, hn⟩ : ∃ n, n = 18 := ⟨18, rfl⟩
  have hsz : ∀ w, (Go.sizeOf 25).run Try.prog w = .ok n w := fun w => by rw [hn]; exact Try.sizeOf25 w
  have hn0 : ¬ n = 0 := by omega
  have h1 := hA.to hn
  have h2 := hB.to hn
  have HS := Lib.hid hS
  have HN := Lib.hid hn
  clear hA hB hS hn
  generalize cmpP a.to b.to = z at *
  generalize pc a.to = A at *
  generalize pc b.to = B at *
  go_enter Try.func37, Try.ntmps37
  go_wp2_with fail
  refine (HC.out _).mono ?_
  rintro e w1 ⟨rfl, b1⟩
  go_wp2
  go_ret
  exact ⟨rfl, HS.out.trans b1⟩

set_option maxRecDepth 100000 in
theorem rightT (r : Rt) : Gives Try.prog 26 #[.agg (rc r)] (.bool (decide (rightR r))) := by
  intro w
  have hA := RAt.new w r
  have hS : Same w (w.alloc (.cells (rc r) 34)) := (Same.refl w).alloc _
  have HC := Lib.hid (right r.to r.ok)
  obtain ⟨n, hn⟩ : ∃ n, n = 18 := ⟨18, rfl⟩
  have hsz : ∀ w, (Go.sizeOf 25).run Try.prog w = .ok n w := fun w => by rw [hn]; exact Try.sizeOf25 w
  have hn0 : ¬ n = 0 := by omega
  have h1 := hA.to hn
  have HS := Lib.hid hS
  have HA := Lib.hid hA
  have HN := Lib.hid hn
  have HR : Hid (decide (rightR r) = (decide (rightP r.to) && (decide (0 ≤ r.metric) && decide (r.metric < 65535)))) := by
    show decide (rightR r) = _
    rw [Bool.eq_iff_iff, decide_eq_true_eq]
    simp only [Bool.and_eq_true, decide_eq_true_eq]
    exact Iff.rfl
  clear hA hS hn
  generalize decide (rightR r) = z at *
  generalize pc r.to = A at *
  generalize decide (rightP r.to) = q at *
  go_enter Try.func26, Try.ntmps26
  go_wp2_with fail
  refine (HC.out _).mono ?_
  rintro e w1 ⟨rfl, b1⟩
  have hm := (HA.out.keep b1.keep).metric
  clear HC h1
  generalize r.metric = m at *
  cases q
  · go_wp2
    go_ret
    exact ⟨by rw [HR.out]; rfl, HS.out.trans b1⟩
  · by_cases h0 : 0 ≤ m
    · have hd : decide (0 ≤ m) = true := by simpa using h0
      rw [hd] at HR
      go_wp2
      go_ret
      exact ⟨by rw [HR.out]; rfl, HS.out.trans b1⟩
    · have hd : decide (0 ≤ m) = false := by simpa using h0
      rw [hd] at HR
      go_wp2
      go_ret
      exact ⟨by rw [HR.out]; rfl, HS.out.trans b1⟩

set_option maxRecDepth 100000 in
theorem qrightT (r : Rt) : Gives Try.prog 27 #[.agg (rc r)] (.bool (decide (rightR r))) := by
  intro w
  have hA := RAt.new w r
  have hS : Same w (w.alloc (.cells (rc r) 34)) := (Same.refl w).alloc _
  have HC := Lib.hid (qright r.to r.ok)
  obtain ⟨n, hn⟩ : ∃ n, n = 18 := ⟨18, rfl⟩
  have hsz : ∀ w, (Go.sizeOf 25).run Try.prog w = .ok n w := fun w => by rw [hn]; exact Try.sizeOf25 w
  have hn0 : ¬ n = 0 := by omega
  have h1 := hA.to hn
  have HS := Lib.hid hS
  have HA := Lib.hid hA
  have HN := Lib.hid hn
  have HR : Hid (decide (rightR r) = (decide (rightP r.to) && (decide (0 ≤ r.metric) && decide (r.metric < 65535)))) := by
    show decide (rightR r) = _
    rw [Bool.eq_iff_iff, decide_eq_true_eq]
    simp only [Bool.and_eq_true, decide_eq_true_eq]
    exact Iff.rfl
  clear hA hS hn
  generalize decide (rightR r) = z at *
  generalize pc r.to = A at *
  generalize decide (rightP r.to) = q at *
  go_enter Try.func27, Try.ntmps27
  go_wp2_with fail
  refine (HC.out _).mono ?_
  rintro e w1 ⟨rfl, b1⟩
  have hm := (HA.out.keep b1.keep).metric
  clear HC h1
  generalize r.metric = m at *
  cases q
  · go_wp2
    go_ret
    exact ⟨by rw [HR.out]; rfl, HS.out.trans b1⟩
  · by_cases h0 : 0 ≤ m
    · have hd : decide (0 ≤ m) = true := by simpa using h0
      rw [hd] at HR
      go_wp2
      go_ret
      exact ⟨by rw [HR.out]; rfl, HS.out.trans b1⟩
    · have hd : decide (0 ≤ m) = false := by simpa using h0
      rw [hd] at HR
      go_wp2
      go_ret
      exact ⟨by rw [HR.out]; rfl, HS.out.trans b1⟩

theorem eq_pcd (d : Nat) (p q : Px) (hp : p.addr.length = 16) (hq : q.addr.length = 16) (w : World) : (Op.equalIn (d + 4) 25 (.agg (pc p)) (.agg (pc q))).run Try.prog w = .ok (decide (p = q)) w := by
  have a0 := pc_six p
  have a17 := pc_len p hp
  have a1 := pc_ext p hp
  have b0 := pc_six q
  have b17 := pc_len q hq
  have b1 := pc_ext q hq
  have he := eq_ac (d + 1) p.addr q.addr hp hq
  rw [run_equalIn_struct (P := Try.prog) w (d + 3) 25 _ _ (by kernel_rfl) (by kernel_rfl)]
  have e : decide (p = q) = (decide (p.six = q.six) && (decide (p.addr = q.addr) && decide (p.len = q.len))) := by
    rw [Bool.eq_iff_iff]
    simp only [Bool.and_eq_true, decide_eq_true_eq]
    constructor
    · intro h; rw [h]; simp
    · intro h; cases p; cases q; simp at h; simp [h]
  rw [e]
  generalize pc p = A at *
  generalize pc q = B at *
  have hf : (Try.prog.fieldsOf 25).toList = [{ name := "Six", type := 4, offset := 0, embedded := false, tag := "", pkgPath := "", byteOffset := 0 }, { name := "Addr", type := 23, offset := 1, embedded := false, tag := "", pkgPath := "", byteOffset := 1 }, { name := "Len", type := 3, offset := 17, embedded := false, tag := "", pkgPath := "", byteOffset := 24 }] := by kernel_rfl
  rw [hf]
  simp only [Op.eqFields]
  go_simp
  by_cases h1 : p.six = q.six <;> by_cases h2 : p.addr = q.addr <;> by_cases h3 : p.len = q.len <;> simp [h1, h2, h3]
theorem rc_ext (r : Rt) : (rc r).extract 0 18 = pc r.to := by
  apply Array.ext'
  simp only [Array.toList_extract, rc]
  rw [List.extract_eq_take_drop]
  simpa using rl_to r
theorem eq_rc (d : Nat) (a b : Rt) (w : World) : (Op.equalIn (d + 5) 34 (.agg (rc a)) (.agg (rc b))).run Try.prog w = .ok (decide (a = b)) w := by
  have a0 := rc_ext a
  have a18 := rc_metric a
  have a19 := rc_seq a
  have b0 := rc_ext b
  have b18 := rc_metric b
  have b19 := rc_seq b
  have he := eq_pcd d a.to b.to a.ok b.ok
  rw [run_equalIn_struct (P := Try.prog) w (d + 4) 34 _ _ (by kernel_rfl) (by kernel_rfl)]
  have e : decide (a = b) = (decide (a.to = b.to) && (decide (a.metric = b.metric) && decide (a.seq = b.seq))) := by
    rw [Bool.eq_iff_iff]
    simp only [Bool.and_eq_true, decide_eq_true_eq]
    constructor
    · intro h; rw [h]; simp
    · intro h; exact Rt.ext' h.1 h.2.1 h.2.2
  rw [e]
  generalize rc a = A at *
  generalize rc b = B at *
  generalize pc a.to = A2 at *
  generalize pc b.to = B2 at *
  have hf : (Try.prog.fieldsOf 34).toList = [{ name := "To", type := 25, offset := 0, embedded := false, tag := "", pkgPath := "", byteOffset := 0 }, { name := "Metric", type := 3, offset := 18, embedded := false, tag := "", pkgPath := "", byteOffset := 32 }, { name := "Seq", type := 32, offset := 19, embedded := false, tag := "", pkgPath := "", byteOffset := 40 }] := by kernel_rfl
  rw [hf]
  simp only [Op.eqFields]
  go_simp
  by_cases h1 : a.to = b.to <;> by_cases h2 : a.metric = b.metric <;> by_cases h3 : a.seq = b.seq <;> simp [h1, h2, h3]
end Go.Proofs.Ytgocmolebanflaa
