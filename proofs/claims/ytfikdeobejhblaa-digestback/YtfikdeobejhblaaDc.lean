/- Proved: digests in memory; what digest's come and leave do to one of a list. Condition: the list is one's own. -/
import Derived.Test.YtfikdeobejhblaaDb
namespace Go.Proofs.Ytfikdeobejhblaa
open Go.RowKit

def dl (d : Dg) : List Value := [.int .i64 d.n, .int .u64 d.s]
def nl (k : Nat) : List Value := [.int .i64 k]
theorem infoD : (Try.prog.info? 68).map (fun i => (i.zero, i.size, i.bytes)) = some (some (.agg (dl zeroD).toArray), 2, 16) := by kernel_rfl
theorem infoQ : (Try.prog.info? 93).map (fun i => (i.zero, i.size, i.bytes)) = some (some (.agg (dl zeroD).toArray), 2, 16) := by kernel_rfl
theorem infoN : (Try.prog.info? 3).map (fun i => (i.zero, i.size, i.bytes)) = some (some (.int .i64 0), 1, 8) := by kernel_rfl
theorem dl_len (d : Dg) : (dl d).length = 2 := rfl
theorem dl_one (d : Dg) : ∀ v ∈ dl d, v.oneCell' = true := by
  intro v hv
  simp only [dl, List.mem_cons, List.not_mem_nil, or_false] at hv
  rcases hv with rfl | rfl <;> rfl
theorem elD : El 42 68 2 16 dl := ⟨by kernel_rfl, by
  obtain ⟨it, h1, h2, h3, h4⟩ := info_all 68 _ _ _ infoD
  exact ⟨it, _, h1, h2, h3, h4, rfl⟩, dl_len, dl_one, by omega⟩
theorem elQ : El 44 93 2 16 dl := ⟨by kernel_rfl, by
  obtain ⟨it, h1, h2, h3, h4⟩ := info_all 93 _ _ _ infoQ
  exact ⟨it, _, h1, h2, h3, h4, rfl⟩, dl_len, dl_one, by omega⟩
theorem elN : El 58 3 1 8 nl := ⟨by kernel_rfl, by
  obtain ⟨it, h1, h2, h3, h4⟩ := info_all 3 _ _ _ infoN
  exact ⟨it, _, h1, h2, h3, h4, rfl⟩, fun _ => rfl, fun x v hv => by
    simp only [nl, List.mem_singleton] at hv
    rw [hv]
    rfl, by omega⟩

/-! ### One cell of a row of one's own -/
theorem row_set {w : World} {B t k n cap g : Nat} {xs : List Value} (h : w.ownsRow B t k (.slice (some ⟨g, 0, none⟩) n cap) n xs) (j : Nat) (hj : j < xs.length) (u : Value) : (w.setCell ⟨g, j, none⟩ u).ownsRow B t k (.slice (some ⟨g, 0, none⟩) n cap) n (xs.set j u) := by
  refine ⟨by rw [List.length_set]; exact h.1, ?_⟩
  rcases h.2 with ⟨h1, _⟩ | ⟨g', cap', cur, h1, h2, h3, h4, h5, h6, h7⟩
  · cases h1
  · simp at h1
    obtain ⟨rfl, rfl⟩ := h1
    refine .inr ⟨g, cap, _, rfl, h2, block_set h3 j u, h4, h5, by simpa using h6, ?_⟩
    rw [Array.toList_setIfInBounds, ← h7, List.take_set]
theorem row_cell {w : World} {B t k n cap g : Nat} {xs : List Value} (h : w.ownsRow B t k (.slice (some ⟨g, 0, none⟩) n cap) n xs) (j : Nat) (u : Value) (hu : xs[j]? = some u) : w.cell? ⟨g, j, none⟩ = some u := by
  have := h.cells (g := g) rfl j u hu
  have hadd : (⟨g, 0, none⟩ : Addr).add j = ⟨g, j, none⟩ := by unfold Addr.add; split <;> simp_all
  rwa [hadd] at this
theorem row_free {w : World} {B t k n cap g : Nat} {xs : List Value} (h : w.ownsRow B t k (.slice (some ⟨g, 0, none⟩) n cap) n xs) (j : Nat) : w.frozen? ⟨g, j, none⟩ = false := by
  rcases h.2 with ⟨h1, _⟩ | ⟨g', cap', cur, h1, h2, h3, h4, h5, h6, h7⟩
  · cases h1
  · simp at h1
    obtain ⟨rfl, rfl⟩ := h1
    simp [World.frozen?, h3]
theorem row_keep {w w' : World} {B t k n : Nat} {v : Value} {xs : List Value} (h : w.ownsRow B t k v n xs) (hk : Keep w w') : w'.ownsRow B t k v n xs := by
  refine ⟨h.1, ?_⟩
  rcases h.2 with h1 | ⟨g, cap, cur, h1, h2, h3, h4⟩
  · exact .inl h1
  · exact .inr ⟨g, cap, cur, h1, h2, hk.obj h3, h4⟩
theorem flat_two : ∀ (l : List Dg) (b : Nat) (d : Dg), b < l.length → ((flat dl l).set (b * 2) (.int .i64 d.n)).set (b * 2 + 1) (.int .u64 d.s) = flat dl (l.set b d)
  | [], _, _, h => by simp at h
  | x :: l, 0, d, _ => by simp [flat_cons, dl]
  | x :: l, b + 1, d, h => by
    have ih := flat_two l b d (by simpa using h)
    rw [List.set_cons_succ, flat_cons, flat_cons, ← ih, show (b + 1) * 2 = b * 2 + 1 + 1 by omega]
    simp [dl]
theorem flat_n (l : List Dg) (b : Nat) (d : Dg) (h : l[b]? = some d) : (flat dl l)[b * 2]? = some (.int .i64 d.n) := flat_get dl dl_len l b d h 0 (by omega)
theorem flat_s (l : List Dg) (b : Nat) (d : Dg) (h : l[b]? = some d) : (flat dl l)[b * 2 + 1]? = some (.int .u64 d.s) := flat_get dl dl_len l b d h 1 (by omega)
theorem flatD_len (l : List Dg) : (flat dl l).length = l.length * 2 := flat_len dl dl_len l

def DgPost (T B : Nat) (w : World) (g n cap : Nat) (l : List Dg) (e : Ending) (w' : World) : Prop := e = .returned (.tuple #[]) ∧ Own T 2 dl B w' (.slice (some ⟨g, 0, none⟩) n cap) l ∧ Only g w w'

set_option maxRecDepth 100000 in
set_option maxHeartbeats 600000 in
theorem come (B : Nat) (w : World) (g n cap : Nat) (l : List Dg) (hn : l.length = n) (h : Own 68 2 dl B w (.slice (some ⟨g, 0, none⟩) n cap) l) (b : Nat) (d : Dg) (hd : l[b]? = some d) (r : Rt) :
    Calls Try.prog 56 #[.pointer (some ⟨g, b * 2, none⟩), .agg (rc r)] w (DgPost 68 B w g n cap (l.set b (comeD d (markOf r)))) := by
  unfold Own at h
  rw [hn] at h
  have hb : b < l.length := (List.getElem?_eq_some_iff.1 hd).1
  have hglt : g < w.heap.size := (h.lt g rfl).2
  have hK0 : Keep w (w.alloc (.cells (rc r) 37)) := (Keep.refl w).alloc _
  have h1 := row_keep h hK0
  have c0 := row_cell h1 (b * 2) _ (flat_n l b d hd)
  have f0 := row_free h1 (b * 2)
  have h2 := row_keep (row_set h (b * 2) (by rw [flatD_len]; omega) (.int .i64 (comeD d (markOf r)).n)) ((Keep.refl _).alloc (.cells (rc r) 37))
  have c1 : ((flat dl l).set (b * 2) (.int .i64 (comeD d (markOf r)).n))[b * 2 + 1]? = some (.int .u64 d.s) := by
    rw [List.getElem?_set_ne (by omega), flat_s l b d hd]
  have hR : RAt ((w.setCell ⟨g, b * 2, none⟩ (.int .i64 (comeD d (markOf r)).n)).alloc (.cells (rc r) 37)) w.heap.size r := by
    have := RAt.new (w.setCell ⟨g, b * 2, none⟩ (.int .i64 (comeD d (markOf r)).n)) r
    simpa using this
  obtain ⟨n2, hn2⟩ : ∃ n, n = 20 := ⟨20, rfl⟩
  have hsz2 : ∀ w, (Go.sizeOf 37).run Try.prog w = .ok n2 w := fun w => by rw [hn2]; exact Try.sizeOf37 w
  have hn20 : ¬ n2 = 0 := by omega
  have HO1 : Hid (Only g w ((w.setCell ⟨g, b * 2, none⟩ (.int .i64 (comeD d (markOf r)).n)).alloc (.cells (rc r) 37))) := Lib.hid ((Only.setCell g (b * 2) _ _).trans (Only.keep ((Keep.refl _).alloc _)))
  have HF := Lib.hid (flat_two l b (comeD d (markOf r)) hb)
  have HM := Lib.hid (dmark r)
  have hwn : wrap64 (d.n + 1) = (comeD d (markOf r)).n := rfl
  have hws : IntKind.u64.wrap (d.s + markOf r) = (comeD d (markOf r)).s := rfl
  have HL : Hid ((flat dl l).length = l.length * 2) := Lib.hid (flatD_len l)
  have HSk := Lib.hid (fun (w' : World) (k : Keep ((w.setCell ⟨g, b * 2, none⟩ (.int .i64 (comeD d (markOf r)).n)).alloc (.cells (rc r) 37)) w') => (show w'.cell? ⟨g, b * 2 + 1, none⟩ = some (.int .u64 d.s) ∧ (loadCellsFrom ⟨w.heap.size, 0, none⟩ 0 n2 #[]).run Try.prog w' = .ok (rc r) w' ∧ w'.frozen? ⟨g, b * 2 + 1, none⟩ = false from ⟨row_cell (row_keep h2 k) _ _ c1, (hR.keep k).whole hn2, row_free (row_keep h2 k) _⟩))
  have H2 := Lib.hid h2
  clear h h1 h2 c1 hR hn2 hK0
  generalize comeD d (markOf r) = d' at *
  generalize markOf r = m at *
  obtain ⟨dn, ds⟩ := d
  simp only at hwn hws c0 HSk
  generalize rc r = R at *
  go_enter Try.func56, Try.ntmps56
  go_wp2
  generalize (w.setCell ⟨g, b * 2, none⟩ (.int .i64 d'.n)).alloc (.cells R 37) = w1 at *
  obtain ⟨s1, s2, s3⟩ := HSk.out _ (Keep.refl w1)
  have s4 := (HSk.out _ (Keep.refl w1).drew).2.1
  go_region_with (go_at_call 15; refine (HM.out _).mono ?_; rintro e w2 ⟨rfl, b2⟩; have hk := ((Keep.refl w1).drew).trans b2; obtain ⟨t1, t2, t3⟩ := HSk.out _ hk; clear b2)
  all_goals
    have HE := Lib.hid (show DgPost 68 B w g n cap (l.set b d') (.returned (.tuple #[])) (w2.setCell ⟨g, b * 2 + 1, none⟩ (.int .u64 d'.s)) from ⟨rfl, by
      have := row_set (row_keep H2.out hk) (b * 2 + 1) (by rw [List.length_set, HL.out]; omega) (.int .u64 d'.s)
      rw [HF.out] at this
      unfold Own
      rw [List.length_set, hn]
      exact this, HO1.out.trans ((Only.keep hk).trans (Only.setCell g (b * 2 + 1) _ _))⟩)
    go_returns
    exact HE.out
set_option maxRecDepth 100000 in
set_option maxHeartbeats 600000 in
theorem leave (B : Nat) (w : World) (g n cap : Nat) (l : List Dg) (hn : l.length = n) (h : Own 68 2 dl B w (.slice (some ⟨g, 0, none⟩) n cap) l) (b : Nat) (d : Dg) (hd : l[b]? = some d) (r : Rt) :
    Calls Try.prog 63 #[.pointer (some ⟨g, b * 2, none⟩), .agg (rc r)] w (DgPost 68 B w g n cap (l.set b (leaveD d (markOf r)))) := by
  unfold Own at h
  rw [hn] at h
  have hb : b < l.length := (List.getElem?_eq_some_iff.1 hd).1
  have hglt : g < w.heap.size := (h.lt g rfl).2
  have hK0 : Keep w (w.alloc (.cells (rc r) 37)) := (Keep.refl w).alloc _
  have h1 := row_keep h hK0
  have c0 := row_cell h1 (b * 2) _ (flat_n l b d hd)
  have f0 := row_free h1 (b * 2)
  have h2 := row_keep (row_set h (b * 2) (by rw [flatD_len]; omega) (.int .i64 (leaveD d (markOf r)).n)) ((Keep.refl _).alloc (.cells (rc r) 37))
  have c1 : ((flat dl l).set (b * 2) (.int .i64 (leaveD d (markOf r)).n))[b * 2 + 1]? = some (.int .u64 d.s) := by
    rw [List.getElem?_set_ne (by omega), flat_s l b d hd]
  have hR : RAt ((w.setCell ⟨g, b * 2, none⟩ (.int .i64 (leaveD d (markOf r)).n)).alloc (.cells (rc r) 37)) w.heap.size r := by
    have := RAt.new (w.setCell ⟨g, b * 2, none⟩ (.int .i64 (leaveD d (markOf r)).n)) r
    simpa using this
  obtain ⟨n2, hn2⟩ : ∃ n, n = 20 := ⟨20, rfl⟩
  have hsz2 : ∀ w, (Go.sizeOf 37).run Try.prog w = .ok n2 w := fun w => by rw [hn2]; exact Try.sizeOf37 w
  have hn20 : ¬ n2 = 0 := by omega
  have HO1 : Hid (Only g w ((w.setCell ⟨g, b * 2, none⟩ (.int .i64 (leaveD d (markOf r)).n)).alloc (.cells (rc r) 37))) := Lib.hid ((Only.setCell g (b * 2) _ _).trans (Only.keep ((Keep.refl _).alloc _)))
  have HF := Lib.hid (flat_two l b (leaveD d (markOf r)) hb)
  have HM := Lib.hid (dmark r)
  have hwn : wrap64 (d.n - 1) = (leaveD d (markOf r)).n := rfl
  have hws : IntKind.u64.wrap (d.s - markOf r) = (leaveD d (markOf r)).s := rfl
  have HL : Hid ((flat dl l).length = l.length * 2) := Lib.hid (flatD_len l)
  have HSk := Lib.hid (fun (w' : World) (k : Keep ((w.setCell ⟨g, b * 2, none⟩ (.int .i64 (leaveD d (markOf r)).n)).alloc (.cells (rc r) 37)) w') => (show w'.cell? ⟨g, b * 2 + 1, none⟩ = some (.int .u64 d.s) ∧ (loadCellsFrom ⟨w.heap.size, 0, none⟩ 0 n2 #[]).run Try.prog w' = .ok (rc r) w' ∧ w'.frozen? ⟨g, b * 2 + 1, none⟩ = false from ⟨row_cell (row_keep h2 k) _ _ c1, (hR.keep k).whole hn2, row_free (row_keep h2 k) _⟩))
  have H2 := Lib.hid h2
  clear h h1 h2 c1 hR hn2 hK0
  generalize leaveD d (markOf r) = d' at *
  generalize markOf r = m at *
  obtain ⟨dn, ds⟩ := d
  simp only at hwn hws c0 HSk
  generalize rc r = R at *
  go_enter Try.func63, Try.ntmps63
  go_wp2
  generalize (w.setCell ⟨g, b * 2, none⟩ (.int .i64 d'.n)).alloc (.cells R 37) = w1 at *
  obtain ⟨s1, s2, s3⟩ := HSk.out _ (Keep.refl w1)
  have s4 := (HSk.out _ (Keep.refl w1).drew).2.1
  go_region_with (go_at_call 15; refine (HM.out _).mono ?_; rintro e w2 ⟨rfl, b2⟩; have hk := ((Keep.refl w1).drew).trans b2; obtain ⟨t1, t2, t3⟩ := HSk.out _ hk; clear b2)
  all_goals
    have HE := Lib.hid (show DgPost 68 B w g n cap (l.set b d') (.returned (.tuple #[])) (w2.setCell ⟨g, b * 2 + 1, none⟩ (.int .u64 d'.s)) from ⟨rfl, by
      have := row_set (row_keep H2.out hk) (b * 2 + 1) (by rw [List.length_set, HL.out]; omega) (.int .u64 d'.s)
      rw [HF.out] at this
      unfold Own
      rw [List.length_set, hn]
      exact this, HO1.out.trans ((Only.keep hk).trans (Only.setCell g (b * 2 + 1) _ _))⟩)
    go_returns
    exact HE.out
end Go.Proofs.Ytfikdeobejhblaa
