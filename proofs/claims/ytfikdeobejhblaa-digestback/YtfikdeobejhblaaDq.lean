/- Proved: how digests are read from bytes; what Read of digest answers. Condition: the text's length fits. -/
import Derived.Test.YtfikdeobejhblaaDn
import Derived.Test.YtfikdeobejhblaaDd
import Derived.Test.YtfikdeobejhblaaMv
namespace Go.Proofs.Ytfikdeobejhblaa
open Go.RowKit

def rdN : Nat → List UInt8 → Except Int (List Dg × List UInt8)
  | 0, s => .ok ([], s)
  | k + 1, s =>
    if (V.uintF s 0).2.2 ≠ 0 then .error (V.uintF s 0).2.2
    else if 300 < (V.uintF s 0).1 then .error 7
    else if (V.uintF (V.uintF s 0).2.1 0).2.2 ≠ 0 then .error (V.uintF (V.uintF s 0).2.1 0).2.2
    else match rdN k (V.uintF (V.uintF s 0).2.1 0).2.1 with
      | .error x => .error x
      | .ok (l, s') => .ok (⟨((V.uintF s 0).1 : Nat), ((V.uintF (V.uintF s 0).2.1 0).1 : Nat)⟩ :: l, s')
def preD (T : List Dg) : Except Int (List Dg × List UInt8) → Except Int (List Dg × List UInt8)
  | .error x => .error x
  | .ok (l, s) => .ok (T ++ l, s)
def outD (k : Nat) (T : List Dg) (l : List UInt8) (x : Int) : Except Int (List Dg × List UInt8) := if x ≠ 0 then .error x else preD T (rdN k l)
def endD : Except Int (List Dg × List UInt8) → Except Int (List Dg)
  | .error x => .error x
  | .ok (l, s) => if s = [] then .ok l else .error 4
def readD9 (s : List UInt8) : Except Int (List Dg) := endD (outD 17 [] s 0)
theorem uintL_zero (f : Nat) : ∀ (k n : Nat) (l : List UInt8) (x : Int), (V.uintL f k n l x).2.2 ≠ 0 → (V.uintL f k n l x).1 = 0 := by
  induction f with
  | zero => intro k n l x _; rfl
  | succ f ih =>
    intro k n l x h
    unfold V.uintL at h ⊢
    split
    · rfl
    · rename_i h1
      rw [if_neg h1] at h
      split
      · rfl
      · rename_i h2
        rw [if_neg h2] at h
        split
        · rename_i h3
          rw [if_pos h3] at h
          simp at h
        · rename_i h3
          rw [if_neg h3] at h
          exact ih _ _ _ _ h
theorem uintF_zero (l : List UInt8) (x : Int) (h : (V.uintF l x).2.2 ≠ 0) : (V.uintF l x).1 = 0 := uintL_zero _ _ _ _ _ h
/-- One more, whatever was wrong. -/
theorem out_step (k : Nat) (T : List Dg) (l : List UInt8) (x : Int) : outD (k + 1) T l x = if 300 < (V.uintF l x).1 then .error 7 else outD k (T ++ [⟨((V.uintF l x).1 : Nat), ((V.uintF (V.uintF l x).2.1 (V.uintF l x).2.2).1 : Nat)⟩]) (V.uintF (V.uintF l x).2.1 (V.uintF l x).2.2).2.1 (V.uintF (V.uintF l x).2.1 (V.uintF l x).2.2).2.2 := by
  by_cases hx : x = 0
  · subst hx
    unfold outD
    rw [if_neg (by simp), rdN]
    by_cases h1 : (V.uintF l 0).2.2 = 0
    · rw [if_neg (by simpa using h1), h1]
      by_cases h2 : 300 < (V.uintF l 0).1
      · rw [if_pos h2, if_pos h2]
        rfl
      · rw [if_neg h2, if_neg h2]
        by_cases h3 : (V.uintF (V.uintF l 0).2.1 0).2.2 = 0
        · rw [if_neg (by simpa using h3), if_neg (by simpa using h3)]
          cases rdN k (V.uintF (V.uintF l 0).2.1 0).2.1 with
          | error y => rfl
          | ok y => simp [preD]
        · rw [if_pos h3, if_pos h3]
          rfl
    · rw [if_pos h1, if_neg (by rw [uintF_zero l 0 h1]; omega), V.uintF_err _ _ h1, if_pos h1]
      rfl
  · unfold outD
    rw [if_pos hx, V.uintF_err l x hx, if_neg (by simp), V.uintF_err l x hx, if_pos hx]
theorem out_zero (T : List Dg) (l : List UInt8) (x : Int) : outD 0 T l x = if x ≠ 0 then .error x else .ok (T, l) := by
  unfold outD
  split
  · rfl
  · simp [rdN, preD]
def okD9 (d : Dg) : Prop := 0 ≤ d.n ∧ d.n ≤ 300 ∧ 0 ≤ d.s ∧ d.s < 18446744073709551616
theorem read_print : ∀ (l : List Dg) (T : List Dg) (more : List UInt8), (∀ d ∈ l, okD9 d) → outD l.length T (printD l ++ more) 0 = .ok (T ++ l, more)
  | [], T, more, _ => by rw [List.length_nil, out_zero]; simp [printD]
  | d :: l, T, more, h => by
    obtain ⟨h1, h2, h3, h4⟩ := h d (by simp)
    have e : printD (d :: l) ++ more = V.enc d.n.toNat ++ (V.enc d.s.toNat ++ (printD l ++ more)) := by simp [printD, dB]
    rw [List.length_cons, out_step, e, V.uintF_enc _ _ (by omega)]
    simp only
    rw [V.uintF_enc _ _ (by omega), if_neg (by omega)]
    simp only
    rw [read_print l _ more fun x hx => h x (by simp [hx])]
    have : (⟨((d.n.toNat : Nat) : Int), ((d.s.toNat : Nat) : Int)⟩ : Dg) = d := by
      cases d
      simp only at h1 h3 ⊢
      congr 1 <;> omega
    rw [this]
    simp
theorem back_D {l : List Dg} (hl : l.length = 17) (h : ∀ d ∈ l, okD9 d) : readD9 (printD l) = .ok l := by
  have := read_print l [] [] h
  rw [hl, List.append_nil] at this
  unfold readD9
  rw [this]
  simp [endD]
def RcRel (g gl : Nat) (w : World) (R : Except Int (List Dg × List UInt8)) (iv : Value) (wr : World) : Prop :=
  ∃ (k : Nat) (L : List Dg) (l : List UInt8) (x : Int), iv = .int .i64 k ∧ k ≤ 17 ∧ L.length = 17 ∧ Own 68 2 dl gl wr (.slice (some ⟨gl, 0, none⟩) 17 17) L ∧ Rd wr g l x ∧ R = outD (17 - k) (L.take k) l x ∧ Keep w wr
def ReadPost9 (w : World) (r : Except Int (List Dg)) (e : Ending) (w' : World) : Prop := match r with
  | .error x => e = .returned (.tuple #[.slice none 0 0, .int .i64 x]) ∧ x ≠ 0 ∧ Keep w w'
  | .ok l => ∃ g cap, e = .returned (.tuple #[.slice (some ⟨g, 0, none⟩) l.length cap, .int .i64 0]) ∧ Own 68 2 dl w.heap.size w' (.slice (some ⟨g, 0, none⟩) l.length cap) l ∧ Keep w w'
theorem Own.only {α : Type} {t k : Nat} {enc : α → List Value} {B g : Nat} {w w' : World} {v : Value} {l : List α} (h : Own t k enc B w v l) (q : Only g w w') (hg : g < B) : Own t k enc B w' v l := by
  refine ⟨h.1, ?_⟩
  rcases h.2 with hn | ⟨g', cap, cur, rfl, hB, hgg, rest⟩
  · exact .inl hn
  · exact .inr ⟨g', cap, cur, rfl, hB, (q.block g' (block_lt hgg) (by omega)).trans hgg, rest⟩
set_option maxRecDepth 100000 in
set_option maxHeartbeats 2000000 in
theorem dread (s : List UInt8) (w : World) (hs : s.length ≤ 1000000) : Calls Try.prog 30 #[.string ⟨s.toArray⟩] w (ReadPost9 w (readD9 s)) := by
  obtain ⟨R, hR⟩ : ∃ R, R = outD 17 [] s 0 := ⟨_, rfl⟩
  have hRE : readD9 s = endD R := by rw [hR]; rfl
  rw [hRE]
  have HR := Lib.hid hR
  have HNew := Lib.hid (newreader s w (by unfold maxLen; omega))
  clear hR hRE
  go_enter Try.func30, Try.ntmps30
  go_wp2_with fail
  refine HNew.out.mono ?_
  rintro e w0 ⟨g, rfl, hg, r0, b0⟩
  obtain ⟨w1, hmk, ho1, hk1⟩ := make17 w0
  have HK0 := Lib.hid (show Keep w w0 from b0)
  have HG := Lib.hid (show g < w0.heap.size from r0.lt)
  have HGW := Lib.hid hg
  obtain ⟨gl, hgl⟩ : ∃ gl, w0.heap.size = gl := ⟨_, rfl⟩
  have HO1 := Lib.hid (ho1 gl (by rw [hgl]; exact Nat.le_refl _))
  rw [hgl] at HO1 hmk HG
  have HGL := Lib.hid hgl
  have HR1 := Lib.hid (r0.below hk1)
  have HK1 := Lib.hid (HK0.out.trans hk1)
  clear hg r0 b0 HNew HK0 ho1 hk1 hgl
  go_wp2
  go_loopw [12] (fun iv wr => RcRel g gl w R iv wr) (fun iv _ => 17 - (intOf iv).toNat)
  case atStart => exact ⟨0, allD [], s, 0, rfl, by omega, allD_len _, HO1.out, HR1.out, HR.out, HK1.out⟩
  case round =>
    obtain ⟨k, L, l, x, rfl, hk, hL, ho, hr, heq, hkp⟩ := hrel
    have HL := Lib.hid hL
    have HO := Lib.hid ho
    have HRd := Lib.hid hr
    have HEQ := Lib.hid heq
    have HK := Lib.hid hkp
    clear hL ho hr heq hkp
    by_cases hlt : k < 17
    · have HU1 := Lib.hid (uint_at g l x wr HRd.out)
      have HST := Lib.hid ((HEQ.out.trans (show outD (17 - k) (L.take k) l x = outD (16 - k + 1) (L.take k) l x by rw [show 17 - k = 16 - k + 1 by omega])).trans (out_step (16 - k) (L.take k) l x))
      have hlt64 := V.uintF_lt l x
      generalize V.uintF l x = c at *
      obtain ⟨n, l1, x1⟩ := c
      simp only at HU1 HST hlt64
      clear HEQ
      by_cases hbig : 300 < n
      · rw [if_pos hbig] at HST
        have hbI : (n : Int) > 300 := by omega
        go_wp2_with fail
        refine HU1.out.mono ?_
        rintro e w3 ⟨rfl, r3, o3⟩
        have HFI := Lib.hid (show ReadPost9 w (endD R) (.returned (.tuple #[.slice none 0 0, .int .i64 7])) w3 from by
          rw [HST.out]
          exact ⟨rfl, by decide, Only.made HK.out o3 (by rw [HGW.out]; exact Nat.le_refl _)⟩)
        clear r3 o3
        go_wp2
        go_ret2
        exact HFI.out
      · rw [if_neg hbig] at HST
        have hbI : ¬ (n : Int) > 300 := by omega
        go_wp2_with fail
        refine HU1.out.mono ?_
        rintro e w3 ⟨rfl, r3, o3⟩
        have HU2 := Lib.hid (uint_at g l1 x1 w3 r3)
        have HO3 := Lib.hid (HO.out.only o3 HG.out)
        have HK3 := Lib.hid (Only.made HK.out o3 (by rw [HGW.out]; exact Nat.le_refl _))
        clear r3 o3 HU1
        generalize V.uintF l1 x1 = c at *
        obtain ⟨q, l2, x2⟩ := c
        simp only at HU2 HST
        go_wp2_with fail
        refine HU2.out.mono ?_
        rintro e w4 ⟨rfl, r4, o4⟩
        have hraw : w4.ownsRow gl 68 2 (.slice (some ⟨gl, 0, none⟩) 17 17) 17 (flat dl L) := by
          have := HO3.out.only o4 HG.out
          unfold Own at this
          rwa [HL.out] at this
        have hfl := flatD_len L
        rw [HL.out] at hfl
        obtain ⟨y, hy⟩ : ∃ y, L[k]? = some y := ⟨_, List.getElem?_eq_getElem (by rw [HL.out]; exact hlt)⟩
        have c0 := row_cell hraw (k * 2) _ (flat_n L k y hy)
        have f0 := row_free hraw (k * 2)
        have c1 := row_cell hraw (k * 2 + 1) _ (flat_s L k y hy)
        have f1 := row_free hraw (k * 2 + 1)
        have hraw2 := row_set (row_set hraw (k * 2) (by omega) (.int .i64 (n : Nat))) (k * 2 + 1) (by rw [List.length_set]; omega) (.int .u64 (q : Nat))
        rw [flat_two L k ⟨(n : Nat), (q : Nat)⟩ (by rw [HL.out]; exact hlt)] at hraw2
        have HRW := Lib.hid hraw2
        have HR4 := Lib.hid r4
        have HK4 := Lib.hid (Only.made HK3.out o4 (by rw [HGW.out]; exact Nat.le_refl _))
        clear hraw hraw2 r4 o4 HU2 hy
        have hon : Only gl w4 ((w4.setCell ⟨gl, k * 2, none⟩ (.int .i64 (n : Nat))).setCell ⟨gl, k * 2 + 1, none⟩ (.int .u64 (q : Nat))) := (Only.setCell gl (k * 2) _ _).trans (Only.setCell gl (k * 2 + 1) _ _)
        have HRL := Lib.hid (show RcRel g gl w R (.int .i64 ((k : Int) + 1)) ((w4.setCell ⟨gl, k * 2, none⟩ (.int .i64 (n : Nat))).setCell ⟨gl, k * 2 + 1, none⟩ (.int .u64 (q : Nat))) from
          ⟨k + 1, L.set k ⟨(n : Nat), (q : Nat)⟩, l2, x2, by go_num, by omega, by rw [List.length_set, HL.out], by
            unfold Own
            rw [List.length_set, HL.out]
            exact HRW.out, HR4.out.other hon (Nat.ne_of_lt HG.out) HR4.out.lt, by
            rw [HST.out, show 17 - (k + 1) = 16 - k by omega, List.take_add_one, List.take_set_of_le (Nat.le_refl k), List.getElem?_set_self (by rw [HL.out]; exact hlt)]
            rfl, Only.made HK4.out hon (by have := HG.out; have := HGW.out; omega)⟩)
        clear hon
        go_wp2
        go_roundw
        case rel => exact HRL.out
        case measure => simp [intOf]; omega
    · obtain rfl : k = 17 := by omega
      have hR0 := HEQ.out
      rw [Nat.sub_self, out_zero, List.take_of_length_le (by rw [HL.out]; exact Nat.le_refl _)] at hR0
      have HD := Lib.hid (done_at g l x wr HRd.out)
      have hdf : V.doneF l x = if x ≠ 0 then x else if l = [] then 0 else 4 := by
        unfold V.doneF
        cases l <;> simp
      rw [hdf] at HD
      have HR0 := Lib.hid hR0
      clear hdf hR0 HEQ
      by_cases hx : x = 0
      · subst hx
        rw [if_neg (by simp)] at HD HR0
        by_cases hl : l = []
        · rw [if_pos hl] at HD
          have HFI := Lib.hid (show ReadPost9 w (endD R) (.returned (.tuple #[.slice (some ⟨gl, 0, none⟩) 17 17, .int .i64 0])) wr from by
            rw [HR0.out]
            simp only [endD]
            rw [if_pos hl]
            exact ⟨gl, 17, by rw [HL.out], by rw [HL.out]; exact HO.out.down (by have := HG.out; have := HGW.out; omega), HK.out⟩)
          clear hl
          go_wp2_with fail
          refine HD.out.mono ?_
          rintro e wr ⟨rfl, rfl⟩
          go_wp2
          go_ret2
          exact HFI.out
        · rw [if_neg hl] at HD
          have HFI := Lib.hid (show ReadPost9 w (endD R) (.returned (.tuple #[.slice none 0 0, .int .i64 4])) wr from by
            rw [HR0.out]
            simp only [endD]
            rw [if_neg hl]
            exact ⟨rfl, by decide, HK.out⟩)
          clear hl
          go_wp2_with fail
          refine HD.out.mono ?_
          rintro e wr ⟨rfl, rfl⟩
          go_wp2
          go_ret2
          exact HFI.out
      · rw [if_pos hx] at HD HR0
        have hxb : (x != 0) = true := by simpa using hx
        have HFI := Lib.hid (show ReadPost9 w (endD R) (.returned (.tuple #[.slice none 0 0, .int .i64 x])) wr from by
          rw [HR0.out]
          exact ⟨rfl, hx, HK.out⟩)
        clear hx
        go_wp2_with fail
        refine HD.out.mono ?_
        rintro e wr ⟨rfl, rfl⟩
        go_wp2
        go_ret2
        exact HFI.out
end Go.Proofs.Ytfikdeobejhblaa
