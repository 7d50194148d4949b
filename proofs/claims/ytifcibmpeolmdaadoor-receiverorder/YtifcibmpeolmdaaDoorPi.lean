/- Proved: what the receiver's fill and Resume answer, and what they do to memory. Condition: the text's length fits; the library's table is as its text lays it. -/
import Derived.Test.YtifcibmpeolmdaaDoorPg
namespace Go.Proofs.YtifcibmpeolmdaaDoor
open Go.RowKit

theorem Rd.block {w w' : World} {b : Nat} {l : List UInt8} {x : Int} (h : Rd w b l x) (e : w'.heap[b]? = w.heap[b]?) : Rd w' b l x := by
  have hc : ∀ i, w'.cell? ⟨b, i, none⟩ = w.cell? ⟨b, i, none⟩ := fun i => World.cell?_of_block (w := w) e
  have hf : ∀ i, w'.frozen? ⟨b, i, none⟩ = w.frozen? ⟨b, i, none⟩ := fun i => World.frozen?_of_block (w := w) e
  exact ⟨(hc 0).trans h.rest, (hc 1).trans h.err, (hf 0).trans h.free0, (hf 1).trans h.free1, h.len⟩
theorem Rd.turn {K : List Nat} {w w' : World} {b : Nat} {l : List UInt8} {x : Int} (h : Rd w b l x) (k : Turn K w w') (hb : b ∉ K) : Rd w' b l x := h.block (k.block b h.lt hb)
theorem rawF_le (l : List UInt8) (n : Int) (h : 0 ≤ n) (x : Int) : ((V.rawF l x n).1.length : Int) ≤ n := by
  unfold V.rawF
  split
  · simpa using h
  · split
    · omega
    · split
      · simpa using h
      · show ((l.take n.toNat).length : Int) ≤ n
        rw [List.length_take]
        omega
theorem textF_le (l : List UInt8) (x : Int) : (V.textF l x 1000).1.length ≤ 1000 := by
  unfold V.textF
  split
  · simp
  · split
    · simp
    · rename_i h
      have := rawF_le (V.uintF l x).2.1 (V.uintF l x).1 (by omega) 0
      omega
/-- What stands ahead of each chunk: fine so far, or something was wrong with the text ahead. -/
def FlRel (res : Rv × Int) (n c b bm bc : Nat) (m : Option Nat) (w : World) (lv : Value) (wr : World) : Prop :=
  ∃ (least : Nat) (y : Rv), lv = .int .u64 (least : Nat) ∧ least ≤ n ∧ S wr b bm bc m y ∧ y.c.length = n ∧ Turn (c :: blks b bm bc m) w wr ∧
    ((∃ f s, n + 1 ≤ f + least ∧ Rd wr c s 0 ∧ fillF n f least s y = res) ∨ ∃ s x, x ≠ 0 ∧ Rd wr c s x ∧ res.2 = x)
theorem fillF_next (n f least : Nat) (s : List UInt8) (y : Rv) : fillF n (f + 1) least s y = if (V.uintF s 0).2.2 ≠ 0 then (y, (V.uintF s 0).2.2)
    else if (V.uintF s 0).1 = n then (y, V.doneF (V.uintF s 0).2.1 0)
    else if n < (V.uintF s 0).1 then (y, 14)
    else if (V.uintF s 0).1 < least then (y, 6)
    else if (V.textF (V.uintF s 0).2.1 0 1000).2.2 ≠ 0 then (y, (V.textF (V.uintF s 0).2.1 0 1000).2.2)
    else fillF n f ((V.uintF s 0).1 + 1) (V.textF (V.uintF s 0).2.1 0 1000).2.1 (y.keep (V.uintF s 0).1 (V.textF (V.uintF s 0).2.1 0 1000).1) := rfl
/-- What fill answers. -/
def FillPost (res : Rv × Int) (c b bm bc : Nat) (m : Option Nat) (w : World) (e : Ending) (w' : World) : Prop :=
  e = .returned (.int .i64 res.2) ∧ Turn (c :: blks b bm bc m) w w' ∧ (res.2 = 0 → S w' b bm bc m res.1)
set_option maxRecDepth 100000 in
set_option maxHeartbeats 1000000 in
theorem fill_at (c b bm bc : Nat) (m : Option Nat) (n : Nat) (x : Rv) (s : List UInt8) (w : World) (h : S w b bm bc m x) (hn : x.c.length = n) (hr : Rd w c s 0) (hc : c ∉ blks b bm bc m) (hc0 : c ≠ 0) :
    Calls Tryd.prog 54 #[.pointer (some ⟨b, 0, none⟩), .pointer (some ⟨c, 0, none⟩)] w (FillPost (fillF n (n + 1) 0 s x) c b bm bc m w) := by
  obtain ⟨res, hres⟩ : ∃ res, fillF n (n + 1) 0 s x = res := ⟨_, rfl⟩
  rw [hres]
  have c2 := h.list
  rw [hn] at c2
  have hfew := h.good.few
  rw [hn] at hfew
  have w0 : IntKind.u64.wrap (n : Int) = (n : Int) := by rw [IntKind.wrap_u64]; omega
  have H0 := Lib.hid (show FlRel res n c b bm bc m w (.int .u64 ((0 : Nat) : Int)) w from ⟨0, x, rfl, Nat.zero_le _, h, hn, Turn.refl _ _, .inl ⟨n + 1, s, Nat.le_refl _, hr, hres⟩⟩)
  have HT1 := Lib.hid (fun v v' (q : Only c v v') => (Turn.only q (by simp) : Turn (c :: blks b bm bc m) v v'))
  have HTS := Lib.hid (fun v v' y (q : Only c v v') (hS : S v b bm bc m y) => (hS.turn (Turn.only (K := [c]) q (by simp)) (by simp; exact fun e => hc0 e.symm) (by simp; exact fun e => hc (by rw [← e]; exact in_b)) (by simp; exact fun e => hc (by rw [← e]; exact in_bm)) (by simp; exact fun e => hc (by rw [← e]; exact in_bc)) (fun z hz => by simp; exact fun e => hc (by rw [← e]; exact in_m hz)) : S v' b bm bc m y))
  have HTM := Lib.hid (fun v v' (q : Turn (blks b bm bc m) v v') => (q.mono (fun k hk => List.mem_cons_of_mem _ hk) : Turn (c :: blks b bm bc m) v v'))
  have HC := Lib.hid hc
  clear h hn hr hres hc hc0
  go_enter Tryd.func54, Tryd.ntmps54
  go_wp2_with fail
  go_loopw [6] (fun lv wr => FlRel res n c b bm bc m w lv wr) (fun lv _ => 300 - (intOf lv).toNat)
  case atStart => exact H0.out
  case round =>
    obtain ⟨least, y, rfl, hle, hS, hyn, hT, hcase⟩ := hrel
    have HS := Lib.hid hS
    have HT := Lib.hid hT
    have HYN := Lib.hid hyn
    clear hS hT hyn c2
    rcases hcase with ⟨f, s1, hf, hrd, hfill⟩ | ⟨s1, e1, hne, hrd, hres⟩
    · obtain ⟨f, rfl⟩ : ∃ f', f = f' + 1 := ⟨f - 1, by omega⟩
      rw [fillF_next] at hfill
      have HU := Lib.hid (uint_at c s1 0 wr hrd)
      have Hf := Lib.hid hf
      generalize V.uintF s1 0 = u at *
      obtain ⟨i, l2, x2⟩ := u
      have HF := Lib.hid hfill
      clear hfill hrd hf
      go_wp2_with fail
      refine HU.out.mono ?_
      rintro e v1 ⟨rfl, hr1, o1⟩
      have HR1 := Lib.hid hr1
      have HS1 := Lib.hid (HTS.out _ _ _ o1 HS.out)
      have HTT := Lib.hid (HT.out.trans (HT1.out _ _ o1))
      clear hr1 o1 HU
      simp only at HR1 HF ⊢
      go_wp2_with fail
      refine (err_rd c l2 x2 v1 HR1.out).mono ?_
      rintro e v2 ⟨rfl, rfl⟩
      by_cases hx : x2 = 0
      · subst hx
        by_cases g1 : i = n
        · have HRes := Lib.hid (show res = (y, V.doneF l2 0) by rw [← HF.out, if_neg (by simp), if_pos g1])
          have t1 : (((i : Nat) : Int) == (n : Int)) = true := by simp; omega
          clear HF g1
          go_wp2_with fail
          refine (done_at c l2 0 v1 HR1.out).mono ?_
          rintro e v3 ⟨rfl, rfl⟩
          go_wp2
          go_ret
          exact ⟨by rw [HRes.out]; rfl, HTT.out, fun _ => by rw [HRes.out]; exact HS1.out⟩
        have t1 : (((i : Nat) : Int) == (n : Int)) = false := by simp; omega
        by_cases g2 : n < i
        · have HRes := Lib.hid (show res = (y, 14) by rw [← HF.out, if_neg (by simp), if_neg g1, if_pos g2])
          have t2 : decide (((i : Nat) : Int) > (n : Int)) = true := decide_eq_true (by omega)
          clear HF g1
          go_wp2
          go_ret
          exact ⟨by rw [HRes.out]; rfl, HTT.out, fun _ => by rw [HRes.out]; exact HS1.out⟩
        have t2 : decide (((i : Nat) : Int) > (n : Int)) = false := decide_eq_false (by omega)
        by_cases g3 : i < least
        · have HRes := Lib.hid (show res = (y, 6) by rw [← HF.out, if_neg (by simp), if_neg g1, if_neg g2, if_pos g3])
          have t3 : decide (((i : Nat) : Int) < (least : Int)) = true := decide_eq_true (by omega)
          clear HF g1
          go_wp2
          go_ret
          exact ⟨by rw [HRes.out]; rfl, HTT.out, fun _ => by rw [HRes.out]; exact HS1.out⟩
        have t3 : decide (((i : Nat) : Int) < (least : Int)) = false := decide_eq_false (by omega)
        have HRes := Lib.hid (show res = if (V.textF l2 0 1000).2.2 ≠ 0 then (y, (V.textF l2 0 1000).2.2) else fillF n f (i + 1) (V.textF l2 0 1000).2.1 (y.keep i (V.textF l2 0 1000).1) by rw [← HF.out, if_neg (by simp), if_neg g1, if_neg g2, if_neg g3])
        have hin : i < n := by omega
        have HIN := Lib.hid (And.intro hin (show least ≤ i by omega))
        have w1 : IntKind.i64.wrap (i : Int) = (i : Int) := IntWalk.i64_in _ (by omega)
        have w2 : IntKind.u64.wrap ((i : Int) + 1) = ((i + 1 : Nat) : Int) := by rw [IntKind.wrap_u64]; omega
        have HTx := Lib.hid (text_at c l2 0 1000 v1 HR1.out (by decide))
        have HLe := Lib.hid (textF_le l2 0)
        generalize V.textF l2 0 1000 = t at *
        obtain ⟨tx, l3, x3⟩ := t
        simp only at HRes HLe HTx
        clear HF g1 HR1
        go_wp2_with fail
        refine HTx.out.mono ?_
        rintro e v3 ⟨rfl, hr3, o3⟩
        have HR3 := Lib.hid hr3
        have HS3 := Lib.hid (HTS.out _ _ _ o3 HS1.out)
        have HT3 := Lib.hid (HTT.out.trans (HT1.out _ _ o3))
        clear hr3 o3 HTx HS1 HTT
        clear g2 g3
        go_wp2_with fail
        refine (vkeep_at i tx (by rw [HYN.out]; exact hin) HLe.out HS3.out).mono ?_
        rintro e v4 ⟨rfl, hs4, t4⟩
        have HS4 := Lib.hid hs4
        have HR4 := Lib.hid (HR3.out.turn t4 HC.out)
        have HT4 := Lib.hid (HT3.out.trans (HTM.out _ _ t4))
        have hlen : (y.keep i tx).c.length = n := by simp [Rv.keep, HYN.out]
        have HLen := Lib.hid hlen
        clear hs4 t4 hlen HS3 HR3 HT3 t1 t2 t3
        have hrel : FlRel res n c b bm bc m w (.int .u64 ((i + 1 : Nat) : Int)) v4 := by
          refine ⟨i + 1, _, rfl, by omega, HS4.out, HLen.out, HT4.out, ?_⟩
          by_cases hx3 : x3 = 0
          · subst hx3
            exact .inl ⟨f, l3, by have := Hf.out; have := HIN.out; omega, HR4.out, by rw [HRes.out, if_neg (by simp)]⟩
          · exact .inr ⟨l3, x3, hx3, HR4.out, by rw [HRes.out, if_pos hx3]⟩
        have HRel := Lib.hid hrel
        clear hrel
        go_wp2
        go_roundw
        case rel => exact HRel.out
        case measure => simp [intOf]; have := HIN.out; omega
      · have HRes := Lib.hid (show res = (y, x2) by rw [← HF.out, if_pos hx])
        have t0 : (x2 != 0) = true := by simpa using hx
        have Hx := Lib.hid hx
        clear HF hx
        go_wp2
        go_ret
        exact ⟨by rw [HRes.out]; rfl, HTT.out, fun q => absurd (by rw [HRes.out] at q; exact q) Hx.out⟩
    · have HU := uint_at c s1 e1 wr hrd
      rw [V.uintF_err s1 e1 hne] at HU
      have HU := Lib.hid HU
      have HX := Lib.hid hne
      have HRs := Lib.hid hres
      have t0 : (e1 != 0) = true := by simpa using hne
      clear hne hres hrd
      go_wp2_with fail
      refine HU.out.mono ?_
      rintro e v1 ⟨rfl, hr1, o1⟩
      have HR1 := Lib.hid hr1
      have HTT := Lib.hid (HT.out.trans (HT1.out _ _ o1))
      clear hr1 o1 HU
      simp only at HR1 ⊢
      go_wp2_with fail
      refine (err_rd c s1 e1 v1 HR1.out).mono ?_
      rintro e v2 ⟨rfl, rfl⟩
      go_wp2
      go_ret
      exact ⟨by rw [HRs.out]; rfl, HTT.out, fun q => absurd (by rw [HRs.out] at q; exact q) HX.out⟩
end Go.Proofs.YtifcibmpeolmdaaDoor
