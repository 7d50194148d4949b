/- Proved: what dump's Read, Pack and Unpack answer. Condition: texts' lengths fit; the table's routes may be. -/
import Derived.Test.YtpimecnpdpcceaaGreatDh
import Derived.Test.YtpimecnpdpcceaaGreatDc
import Derived.Test.YtpimecnpdpcceaaGreatLl
namespace Go.Proofs.YtpimecnpdpcceaaGreat
open Go.RowKit

theorem build_dr (g : Nat) (w : World) : (Instr.build 57 #[(0, .pointer (some ⟨g, 0, none⟩))]).run Tryz.prog w = .ok (.agg (dr g [] zeroP)) w := by kernel_rfl
def ReadPost (w : World) (r : Except Int (List (Dm.Rw Px))) (e : Ending) (w' : World) : Prop := match r with
  | .error x => e = .returned (.tuple #[.pointer none, .int .i64 x]) ∧ x ≠ 0 ∧ Keep w w'
  | .ok l => ∃ b, e = .returned (.tuple #[.pointer (some ⟨b, 0, none⟩), .int .i64 0]) ∧ w.heap.size ≤ b ∧ Tb w' b (l.map rtOf) ∧ (∀ r ∈ l.map rtOf, Rok r) ∧ (l.map rtOf).map rwOf = l ∧ Keep w w'
theorem newE_zero {l : List Rt} (hs : Sorted l) (hr : ∀ r ∈ l, Rok r) (hl : l.length ≤ 300) : newE l = 0 := by
  unfold newE
  rw [if_pos (fun r h => (hr r h).1), if_pos (nodup_of hs), if_pos hl]
theorem routes_err {s : List UInt8} {l : List (Dm.Rw Px)} {s2 : List UInt8} (h : routesF s = .ok (l, s2)) : Sorted (l.map rtOf) ∧ (∀ r ∈ l.map rtOf, Rok r) ∧ (l.map rtOf).map rwOf = l ∧ l.length ≤ 300 := by
  unfold routesF at h
  generalize V.uintF s 0 = c at h
  obtain ⟨n, s1, x1⟩ := c
  simp only at h
  split at h
  · simp at h
  · split at h
    · simp at h
    · rename_i h300
      obtain ⟨h1, _, h3⟩ := Dm.n_back (C := codP) n none [] s1 l s2 h
      obtain ⟨a, b, _, d⟩ := sorted_of_okD l none h3 (by simp)
      exact ⟨a, b, d, by omega⟩

set_option maxRecDepth 100000 in
set_option maxHeartbeats 1000000 in
theorem dread (s : List UInt8) (hs : s.length ≤ 1000000000000) (w : World) : Calls Tryz.prog 7 #[.string ⟨s.toArray⟩] w (ReadPost w (Dm.readD codP s)) := by
  obtain ⟨R, hR⟩ : ∃ R, R = Dm.readD codP s := ⟨_, rfl⟩
  rw [← hR]
  rw [readD_eq] at hR
  have HNew := Lib.hid (newreader s w (by unfold maxLen; omega))
  have HBD := Lib.hid build_dr
  have HRt := Lib.hid (fun (b g : Nat) (w : World) (h : Dr w b g s [] zeroP) => droutes b g s w h)
  have HOk := Lib.hid (fun l s2 (h : routesF s = .ok (l, s2)) => routes_err h)
  generalize routesF s = rr at hR HRt HOk
  have HR := Lib.hid hR
  clear hR
  go_enter Tryz.func7, Tryz.ntmps7
  go_wp2_with fail
  refine HNew.out.mono ?_
  rintro e w1 ⟨g, rfl, hg, r1, b1⟩
  have HK1 := Lib.hid (show Keep w w1 from b1)
  have HG := Lib.hid hg
  have HK2 := Lib.hid (HK1.out.alloc (.cells (dr g [] zeroP) 57))
  have HD2 := Lib.hid (show Dr (w1.alloc (.cells (dr g [] zeroP) 57)) w1.heap.size g s [] zeroP from ⟨heap_alloc_last w1 _, r1.below ((Keep.refl w1).alloc _), by have := r1.lt; omega, rfl, by simp⟩)
  clear r1 b1 hg HNew
  go_wp2_with (first | (refine at_build [(0, .pointer (some ⟨g, 0, none⟩))] rfl _ (HBD.out g _) ?_) | fail)
  refine (HRt.out w1.heap.size g _ HD2.out).mono ?_
  cases rr with
  | error x =>
    rintro e w3 ⟨rfl, hx, t3⟩
    have hxb : (x != 0) = true := by simpa using hx
    have HRE := Lib.hid (show R = .error x from HR.out)
    have HK3 := Lib.hid (Two.made HK2.out t3 HK1.out.size (by rw [HG.out]; exact Nat.le_refl _))
    clear t3
    go_wp2
    go_ret2
    rw [HRE.out]
    exact ⟨rfl, hx, HK3.out⟩
  | ok y =>
    obtain ⟨l, s2⟩ := y
    rintro e w3 ⟨v, rfl, hrow, r3, c3, t3⟩
    obtain ⟨hso, hro, hrw, hl⟩ := HOk.out l s2 rfl
    have HK3 := Lib.hid (Two.made HK2.out t3 HK1.out.size (by rw [HG.out]; exact Nat.le_refl _))
    have HDn := Lib.hid (done_at g s2 0 w3 r3)
    have hdn : V.doneF s2 0 = if s2 = [] then 0 else 4 := by
      unfold V.doneF
      rw [if_neg (by simp)]
      cases s2 <;> simp
    rw [hdn] at HDn
    have HRow := Lib.hid hrow
    have hR := HR.out
    simp only at hR
    have HRE := Lib.hid hR
    clear t3 r3 hrow hR HR hdn
    go_wp2_with fail
    refine HDn.out.mono ?_
    rintro e w3 ⟨rfl, rfl⟩
    by_cases hs2 : s2 = []
    · rw [if_pos hs2]
      have HRX := Lib.hid (show R = .ok l from by rw [HRE.out, if_pos hs2])
      have HNw := Lib.hid (new v (l.map rtOf) w3 HRow.out.cells (by rw [List.length_map]; omega))
      have hE := newE_zero hso hro (by rw [List.length_map]; exact hl)
      have HE := Lib.hid hE
      have HSO := Lib.hid hso
      have HRO := Lib.hid hro
      have HRW := Lib.hid hrw
      clear hso hro hrw hE HRE
      go_wp2_with fail
      refine HNw.out.mono ?_
      rintro e w4 ⟨p, rfl, k4, ⟨h0, _⟩ | ⟨_, b', l', rfl, hb', hperm, htb⟩⟩
      · exact absurd HE.out h0
      · have hll : l' = l.map rtOf := sorted_unique htb.sorted HSO.out hperm
        subst hll
        rw [HE.out]
        have HTB := Lib.hid htb
        have HK4 := Lib.hid (HK3.out.trans k4)
        have HB' := Lib.hid (Nat.le_trans HK3.out.size hb')
        clear htb k4 hb' hperm
        go_wp2
        go_ret2
        rw [HRX.out]
        exact ⟨b', rfl, HB'.out, HTB.out, HRO.out, HRW.out, HK4.out⟩
    · rw [if_neg hs2]
      have HRX := Lib.hid (show R = .error 4 from by rw [HRE.out, if_neg hs2])
      go_wp2
      go_ret2
      rw [HRX.out]
      exact ⟨rfl, by decide, HK3.out⟩

/-- A dump is short. -/
theorem dump_short (l : List Rt) (hl : l.length ≤ 300) (hok : ∀ r ∈ l, Rok r) : (Dm.dumpL codP (l.map rwOf)).length ≤ 65536 := by
  have h1 := Dm.go_len (C := codP) (l.map rwOf) [] (fun r hr => by
    obtain ⟨x, hx, rfl⟩ := List.mem_map.1 hr
    obtain ⟨⟨_, h1, h2⟩, h3, h4⟩ := hok x hx
    exact ⟨by show x.metric.toNat < 65535; omega, by show x.seq.toNat < 4294967296; omega⟩)
  have h2 : ∀ L : List (Dm.Rw Px), (L.map fun r => 1 + 1 + (codP.pb r.p).length + 3 + 5).sum ≤ 27 * L.length := by
    intro L
    induction L with
    | nil => simp
    | cons r L ih =>
      have := codP.short r.p
      rw [List.map_cons, List.sum_cons, List.length_cons]
      omega
  have h3 := h2 (l.map rwOf)
  have h4 := enc10 (n := l.length) (by omega)
  unfold Dm.dumpL
  rw [List.length_append, List.length_map]
  rw [List.length_map] at h3
  omega
def DPackPost (w : World) (l : List Rt) (e : Ending) (w' : World) : Prop := ∃ p : List UInt8, e = .returned (.tuple #[.string ⟨p.toArray⟩, .int .i64 0]) ∧ Packs (Dm.dumpL codP (l.map rwOf)) p ∧ Keep w w'

set_option maxRecDepth 100000 in
theorem dpack (t : Value) (l : List Rt) (w : World) (h : Tp w t l) (hok : ∀ r ∈ l, Rok r) : Calls Tryz.prog 22 #[t] w (DPackPost w l) := by
  have HP := Lib.hid (dprint t l w h hok)
  have HZ := Lib.hid (zpack (Dm.dumpL codP (l.map rwOf)) (dump_short l h.few hok))
  unfold DPackPost
  generalize Dm.dumpL codP (l.map rwOf) = D at *
  go_enter Tryz.func22, Tryz.ntmps22
  go_wp2_with fail
  refine HP.out.mono ?_
  rintro e w1 ⟨rfl, k1⟩
  have HK := Lib.hid k1
  clear k1
  go_wp2_with fail
  refine (HZ.out w1).mono ?_
  rintro e w2 ⟨p, rfl, hp, k2⟩
  have HPk := Lib.hid hp
  have HK2 := Lib.hid (HK.out.trans k2)
  clear hp k2
  go_wp2
  go_ret2
  exact ⟨p, rfl, HPk.out, HK2.out⟩

/-- What packed bytes are as a table. -/
def unpD (s : List UInt8) : Except Int (List (Dm.Rw Px)) := if (Lz.unpackF s 65536).2 ≠ 0 then .error (Lz.unpackF s 65536).2 else Dm.readD codP (Lz.unpackF s 65536).1

set_option maxRecDepth 100000 in
theorem dunpack (s : List UInt8) (hs : s.length ≤ 1000000000000) (w : World) : Calls Tryz.prog 14 #[.string ⟨s.toArray⟩] w (ReadPost w (unpD s)) := by
  obtain ⟨R, hR⟩ : ∃ R, R = unpD s := ⟨_, rfl⟩
  rw [← hR]
  unfold unpD at hR
  have HU := Lib.hid (zunpack s hs 65536 (by omega) w)
  have hul : (Lz.unpackF s 65536).1.length ≤ 65536 := by
    unfold Lz.unpackF
    have := Lz.tokens_okL (s := s)
    generalize Lz.tokensF s = c at *
    obtain ⟨T, N, x⟩ := c
    simp only at this ⊢
    by_cases hx : x ≠ 0
    · rw [if_pos hx]; simp
    · rw [if_neg hx]
      by_cases hm : 65536 < N
      · rw [if_pos hm]; simp
      · rw [if_neg hm]
        have := Lz.okL_text (this (Decidable.not_not.1 hx)).1
        simp only
        omega
  have HRd := Lib.hid (fun w => dread (Lz.unpackF s 65536).1 (by omega) w)
  generalize Lz.unpackF s 65536 = c at *
  obtain ⟨t, x⟩ := c
  simp only at hR HU HRd
  have HR := Lib.hid hR
  clear hR
  go_enter Tryz.func14, Tryz.ntmps14
  go_wp2_with fail
  refine HU.out.mono ?_
  rintro e w1 ⟨rfl, k1⟩
  have HK := Lib.hid k1
  clear k1
  by_cases hx : x = 0
  · have hxb : (x != 0) = false := by simp [hx]
    have hR := HR.out
    rw [if_neg (by simp [hx])] at hR
    rw [← hR] at HRd
    clear hR HR
    go_wp2_with fail
    refine (HRd.out w1).mono ?_
    intro e w2 hp
    cases R with
    | error y =>
      obtain ⟨rfl, hy, k2⟩ := hp
      have HK2 := Lib.hid (HK.out.trans k2)
      clear k2
      go_wp2
      go_ret2
      exact ⟨rfl, hy, HK2.out⟩
    | ok l =>
      obtain ⟨b, rfl, hb, htb, h1, h2, k2⟩ := hp
      have HK2 := Lib.hid (HK.out.trans k2)
      have HT := Lib.hid htb
      have HB := Lib.hid (Nat.le_trans HK.out.size hb)
      have H1 := Lib.hid h1
      have H2 := Lib.hid h2
      clear k2 htb hb h1 h2
      go_wp2
      go_ret2
      exact ⟨b, rfl, HB.out, HT.out, H1.out, H2.out, HK2.out⟩
  · have hxb : (x != 0) = true := by simpa using hx
    have HRE := Lib.hid (show R = .error x from by rw [HR.out, if_pos hx])
    go_wp2
    go_ret2
    rw [HRE.out]
    exact ⟨rfl, hx, HK.out⟩
end Go.Proofs.YtpimecnpdpcceaaGreat
