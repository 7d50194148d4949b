/- Proved: what Read of the document answers. Condition: the text's length fits. -/
import Derived.Test.YtfikdeobejhblaaDq
import Derived.MapKept
namespace Go.Proofs.Ytfikdeobejhblaa
open Go.RowKit

theorem build_qr (s : ByteArray) (w : World) : (Instr.build 108 #[(0, .string s)]).run Try.prog w = .ok (.agg #[.string s, .int .i64 0]) w := by kernel_rfl
theorem qr_new (w : World) (l : List UInt8) (hl : l.length ≤ maxLen) : Rd (w.alloc (.cells #[.string ⟨l.toArray⟩, .int .i64 0] 108)) w.heap.size l 0 := ⟨by go_simp, by go_simp, by go_simp, by go_simp, hl⟩
theorem Rd.app {α : Type} {t k : Nat} {enc : α → List Value} {B g : Nat} {s : List UInt8} {x : Int} {w w' : World} {v : Value} {l : List α} (h : Rd w g s x) (ho : Own t k enc B w v l) (hg : g < B) (hgr : w.grownBy w' v.ownBlock) : Rd w' g s x := by
  have hb2 : w'.heap[g]? = w.heap[g]? := hgr.block g h.lt fun e => by
    have := (World.ownsRow.lt ho g e.symm).1
    omega
  exact ⟨(World.cell?_of_block (a := ⟨g, 0, none⟩) hb2).trans h.rest, (World.cell?_of_block (a := ⟨g, 1, none⟩) hb2).trans h.err, (World.frozen?_of_block (a := ⟨g, 0, none⟩) hb2).trans h.free0, (World.frozen?_of_block (a := ⟨g, 1, none⟩) hb2).trans h.free1, h.len⟩
def QcRel (w : World) (g : Nat) (R : Except Int (List Dg × List UInt8)) (lv iv : Value) (wr : World) : Prop :=
  ∃ (T : List Dg) (l : List UInt8), iv = .int .i64 (T.length : Nat) ∧ T.length ≤ 17 ∧ Own 93 2 dl (g + 1) wr lv T ∧ Rd wr g l 0 ∧ R = outD (17 - T.length) T l 0 ∧ Keep w wr
def ReadPostQ (w : World) (r : Except Int (List Dg)) (e : Ending) (w' : World) : Prop := match r with
  | .error x => e = .returned (.tuple #[.slice none 0 0, .int .i64 x]) ∧ x ≠ 0 ∧ Keep w w'
  | .ok l => ∃ v, e = .returned (.tuple #[v, .int .i64 0]) ∧ Own 93 2 dl w.heap.size w' v l ∧ Keep w w'
set_option maxRecDepth 100000 in
set_option maxHeartbeats 2000000 in
theorem qread9 (s : List UInt8) (w : World) (hs : s.length ≤ 1000000) : Calls Try.prog 31 #[.string ⟨s.toArray⟩] w (ReadPostQ w (readD9 s)) := by
  obtain ⟨R, hR⟩ : ∃ R, R = outD 17 [] s 0 := ⟨_, rfl⟩
  have hRE : readD9 s = endD R := by rw [hR]; rfl
  rw [hRE]
  have HR := Lib.hid hR
  have HBD := Lib.hid (build_qr ⟨s.toArray⟩)
  have HRd0 := Lib.hid (qr_new w s (by unfold maxLen; omega))
  have HK0 := Lib.hid (show Keep w (w.alloc (.cells #[.string ⟨s.toArray⟩, .int .i64 0] 108)) from (Keep.refl _).alloc _)
  obtain ⟨g, hg⟩ : ∃ g, w.heap.size = g := ⟨_, rfl⟩
  have HG := Lib.hid hg
  rw [hg] at HRd0
  clear hR hRE
  go_enter Try.func31, Try.ntmps31
  go_wp2_with ((with_reducible refine at_build [(0, .string ⟨s.toArray⟩)] ?_ (.agg #[.string ⟨s.toArray⟩, .int .i64 0]) ?_ ?_); rfl; exact HBD.out _)
  clear hg
  go_loopw [5, 6] (fun lv iv wr => QcRel w g R lv iv wr) (fun _ iv _ => 17 - (intOf iv).toNat)
  case atStart => exact ⟨[], s, rfl, by simp, Own.nil _ _, HRd0.out, HR.out, HK0.out⟩
  case round =>
    obtain ⟨T, l, rfl, hT, ho, hr, heq, hkp⟩ := hrel
    obtain ⟨k, hk⟩ : ∃ k, T.length = k := ⟨_, rfl⟩
    have HT := Lib.hid hk
    have HO := Lib.hid ho
    have HRd := Lib.hid hr
    have HEQ := Lib.hid heq
    have HK := Lib.hid hkp
    rw [hk] at HEQ hT ⊢
    clear ho hr heq hkp hk
    by_cases hlt : k < 17
    · have HU1 := Lib.hid (quint_at g l 0 wr HRd.out)
      have HST := Lib.hid ((HEQ.out.trans (show outD (17 - k) T l 0 = outD (16 - k + 1) T l 0 by rw [show 17 - k = 16 - k + 1 by omega])).trans (out_step (16 - k) T l 0))
      have HZ := Lib.hid (uintF_zero l 0)
      generalize V.uintF l 0 = c at *
      obtain ⟨n, l1, x1⟩ := c
      simp only at HU1 HST HZ
      clear HEQ
      by_cases hx1 : x1 = 0
      · subst hx1
        by_cases hbig : 300 < n
        · rw [if_pos hbig] at HST
          have hbI : (n : Int) > 300 := by omega
          go_wp2_with fail
          refine HU1.out.mono ?_
          rintro e w3 ⟨rfl, r3, o3⟩
          have e1 := r3.err
          have HFI := Lib.hid (show ReadPostQ w (endD R) (.returned (.tuple #[.slice none 0 0, .int .i64 7])) w3 from by
            rw [HST.out]
            exact ⟨rfl, by decide, Only.made HK.out o3 (by rw [HG.out]; exact Nat.le_refl _)⟩)
          clear r3 o3
          go_wp2
          go_ret2
          exact HFI.out
        · rw [if_neg hbig] at HST
          have hbI : ¬ (n : Int) > 300 := by omega
          go_wp2_with fail
          refine HU1.out.mono ?_
          rintro e w3 ⟨rfl, r3, o3⟩
          have e1 := r3.err
          have HU2 := Lib.hid (quint_at g l1 0 w3 r3)
          have HO3 := Lib.hid (HO.out.only o3 (Nat.lt_succ_self g))
          have HK3 := Lib.hid (Only.made HK.out o3 (by rw [HG.out]; exact Nat.le_refl _))
          clear r3 o3 HU1
          generalize V.uintF l1 0 = c at *
          obtain ⟨q, l2, x2⟩ := c
          simp only at HU2 HST
          go_wp2_with fail
          refine HU2.out.mono ?_
          rintro e w4 ⟨rfl, r4, o4⟩
          have e2 := r4.err
          have HO4 := Lib.hid (HO3.out.only o4 (Nat.lt_succ_self g))
          have HK4 := Lib.hid (Only.made HK3.out o4 (by rw [HG.out]; exact Nat.le_refl _))
          have HR4 := Lib.hid r4
          clear r4 o4 HU2 e1
          by_cases hx2 : x2 = 0
          · subst hx2
            have hkw : Keep w4 (w4.alloc (.cells #[.int .i64 (n : Nat), .int .u64 (q : Nat)] 93)) := (Keep.refl w4).alloc _
            have HO5 := Lib.hid (HO4.out.keep hkw)
            have HK5 := Lib.hid (HK4.out.trans hkw)
            have HR5 := Lib.hid (HR4.out.below hkw)
            have hb5 : g + 1 ≤ (w4.alloc (.cells #[.int .i64 (n : Nat), .int .u64 (q : Nat)] 93)).heap.size := HR5.out.lt
            have HC5 : Hid (Cells dl (w4.alloc (.cells #[.int .i64 (n : Nat), .int .u64 (q : Nat)] 93)) (.slice (some ⟨w4.heap.size, 0, none⟩) 1 1) [⟨(n : Nat), (q : Nat)⟩]) := Lib.hid (Cells.oneQ 93 ⟨(n : Nat), (q : Nat)⟩)
            clear hkw
            go_wp2_with (at_builtin; refine wp_app elQ rfl _ _ rfl (g + 1) _ _ T [⟨(n : Nat), (q : Nat)⟩] rfl rfl HO5.out HC5.out ?q1 ?q2 ?q3 ?_)
            case q1 => rw [HT.out]; simp only [List.length_singleton]; omega
            case q2 => rw [HT.out]; simp only [List.length_singleton]; omega
            case q3 => exact hb5
            intro v' w9 k1 k2
            have HRL := Lib.hid (show QcRel w g R v' (.int .i64 ((k : Int) + 1)) w9 from ⟨T ++ [⟨(n : Nat), (q : Nat)⟩], l2, by rw [List.length_append, HT.out]; go_num, by rw [List.length_append, HT.out]; simp only [List.length_singleton]; omega, k1, HR5.out.app HO5.out (Nat.lt_succ_self g) k2, by
              rw [HST.out, List.length_append, HT.out]
              simp only [List.length_singleton]
              rw [show 17 - (k + 1) = 16 - k by omega], HO5.out.grown HK5.out (by have := HG.out; omega) k2⟩)
            clear k1 k2 hb5 e2
            go_wp2
            go_roundw
            case rel => exact HRL.out
            case measure => simp [intOf]; omega
          · have hxb : (x2 != 0) = true := by simpa using hx2
            have HFI := Lib.hid (show ReadPostQ w (endD R) (.returned (.tuple #[.slice none 0 0, .int .i64 x2])) w4.drew from by
              rw [HST.out]
              unfold outD
              rw [if_pos hx2]
              exact ⟨rfl, hx2, HK4.out.drew⟩)
            go_wp2
            go_region
            go_wp2
            go_ret2
            exact HFI.out
      · have hxb : (x1 != 0) = true := by simpa using hx1
        have hn0 : n = 0 := HZ.out hx1
        rw [if_neg (by omega)] at HST
        have HFI := Lib.hid (show ∀ w3, Keep w w3 → ReadPostQ w (endD R) (.returned (.tuple #[.slice none 0 0, .int .i64 x1])) w3 from fun w3 hk3 => by
          rw [HST.out, V.uintF_err _ _ hx1]
          unfold outD
          rw [if_pos hx1]
          exact ⟨rfl, hx1, hk3⟩)
        clear hn0
        go_wp2_with fail
        refine HU1.out.mono ?_
        rintro e w3 ⟨rfl, r3, o3⟩
        have e1 := r3.err
        have HFF := Lib.hid (HFI.out w3.drew (Only.made HK.out o3 (by rw [HG.out]; exact Nat.le_refl _)).drew)
        clear r3 o3
        go_wp2
        go_region
        go_wp2
        go_ret2
        exact HFF.out
    · obtain rfl : k = 17 := by omega
      have hR0 := HEQ.out
      rw [Nat.sub_self, out_zero, if_neg (by simp)] at hR0
      have HR0 := Lib.hid hR0
      have e0 := HRd.out.rest
      clear hR0 HEQ
      by_cases hl : l = []
      · have HFI := Lib.hid (show ∀ v, Own 93 2 dl (g + 1) wr v T → ReadPostQ w (endD R) (.returned (.tuple #[v, .int .i64 0])) wr from fun v hv => by
          rw [HR0.out]
          simp only [endD]
          rw [if_pos hl]
          exact ⟨v, rfl, hv.down (by have := HG.out; omega), HK.out⟩)
        have HFO := Lib.hid (HFI.out _ HO.out)
        rw [hl] at e0
        clear hl
        go_wp2
        go_ret2
        exact HFO.out
      · have HFI := Lib.hid (show ReadPostQ w (endD R) (.returned (.tuple #[.slice none 0 0, .int .i64 4])) wr from by
          rw [HR0.out]
          simp only [endD]
          rw [if_neg hl]
          exact ⟨rfl, by decide, HK.out⟩)
        have g1 : ((⟨l.toArray⟩ : ByteArray) == ⟨#[]⟩) = false := by
          apply Bool.eq_false_iff.2
          intro h
          rw [MapKept.bytes_beq] at h
          simp at h
          exact hl h
        have g2 : l.isEmpty = false := by cases l <;> simp_all
        clear hl
        go_wp2
        go_ret2
        exact HFI.out
end Go.Proofs.Ytfikdeobejhblaa
