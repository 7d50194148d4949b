/- Proved: what incr's Read answers. Condition: the text's length fits. -/
import Derived.Test.YtgkgpdlakamgiaaGreatIb
namespace Go.Proofs.YtgkgpdlakamgiaaGreat
open Go.RowKit

def preI (T : List Ic) : Except Int (List Ic × List UInt8) → Except Int (List Ic × List UInt8)
  | .error x => .error x
  | .ok (l, s) => .ok (T ++ l, s)
theorem preI_nil (r : Except Int (List Ic × List UInt8)) : preI [] r = r := by cases r <;> rfl
theorem readN8_err {k : Nat} {s : List UInt8} {x : Int} (h : chF s = .error x) : readN8 (k + 1) s = .error x := by rw [readN8, h]
theorem readN8_ok {k : Nat} {s s' : List UInt8} {i : Ic} (h : chF s = .ok (i, s')) (T : List Ic) : preI T (readN8 (k + 1) s) = preI (T ++ [i]) (readN8 k s') := by
  rw [readN8, h]
  simp only
  cases readN8 k s' with
  | error x => rfl
  | ok y => simp [preI]
theorem Own.only {α : Type} {t k : Nat} {enc : α → List Value} {B g : Nat} {w w' : World} {v : Value} {l : List α} (h : Own t k enc B w v l) (q : Only g w w') (hg : g < B) : Own t k enc B w' v l := by
  refine ⟨h.1, ?_⟩
  rcases h.2 with hn | ⟨g', cap, cur, rfl, hB, hgg, rest⟩
  · exact .inl hn
  · exact .inr ⟨g', cap, cur, rfl, hB, (q.block g' (block_lt hgg) (by omega)).trans hgg, rest⟩
theorem Rd.app {α : Type} {t k : Nat} {enc : α → List Value} {B g : Nat} {s : List UInt8} {x : Int} {w w' : World} {v : Value} {l : List α} (h : Rd w g s x) (ho : Own t k enc B w v l) (hg : g < B) (hgr : w.grownBy w' v.ownBlock) : Rd w' g s x := by
  have hb2 : w'.heap[g]? = w.heap[g]? := hgr.block g h.lt fun e => by
    have := (World.ownsRow.lt ho g e.symm).1
    omega
  exact ⟨(World.cell?_of_block (a := ⟨g, 0, none⟩) hb2).trans h.rest, (World.cell?_of_block (a := ⟨g, 1, none⟩) hb2).trans h.err, (World.frozen?_of_block (a := ⟨g, 0, none⟩) hb2).trans h.free0, (World.frozen?_of_block (a := ⟨g, 1, none⟩) hb2).trans h.free1, h.len⟩
theorem Own.down {α : Type} {t k : Nat} {enc : α → List Value} {B B' : Nat} {w : World} {v : Value} {l : List α} (h : Own t k enc B w v l) (hb : B' ≤ B) : Own t k enc B' w v l := by
  refine ⟨h.1, ?_⟩
  rcases h.2 with hn | ⟨g', cap, cur, h1, hB, rest⟩
  · exact .inl hn
  · exact .inr ⟨g', cap, cur, h1, Nat.le_trans hb hB, rest⟩
def RsRel (g B : Nat) (w : World) (N : Nat) (r0 : Except Int (List Ic × List UInt8)) (lv iv : Value) (wr : World) : Prop :=
  ∃ (T : List Ic) (s : List UInt8), iv = .int .u64 (T.length : Nat) ∧ T.length ≤ N ∧ r0 = preI T (readN8 (N - T.length) s) ∧ Own 59 21 il B wr lv T ∧ Rd wr g s 0 ∧ Keep w wr ∧ B ≤ wr.heap.size
def ReadPost (w : World) (r : Except Int (List Ic)) (e : Ending) (w' : World) : Prop := match r with
  | .error x => e = .returned (.tuple #[.slice none 0 0, .int .i64 x]) ∧ x ≠ 0 ∧ Keep w w'
  | .ok l => ∃ v, e = .returned (.tuple #[v, .int .i64 0]) ∧ Own 59 21 il w.heap.size w' v l ∧ Keep w w'

set_option maxRecDepth 100000 in
set_option maxHeartbeats 4000000 in
theorem iread (s : List UInt8) (w : World) (hs : s.length ≤ 1000000) : Calls Tryz.prog 10 #[.string ⟨s.toArray⟩] w (ReadPost w (readI s)) := by
  obtain ⟨R, hR⟩ : ∃ R, R = readI s := ⟨_, rfl⟩
  rw [← hR]
  have HNew := Lib.hid (newreader s w (by unfold maxLen; omega))
  have hnum := fun (w1 : World) (r1 : Rd w1 w.heap.size s 0) => inum w.heap.size 201 7 s w1 r1 (by omega)
  unfold readI at hR
  unfold NumPost7 numF at hnum
  generalize V.uintF s 0 = c at hR hnum
  obtain ⟨N, s1, x1⟩ := c
  simp only at hR hnum
  have HR := Lib.hid hR
  have HNum := Lib.hid hnum
  obtain ⟨hz, hi⟩ := zero_of_info info43b
  obtain ⟨n, hn⟩ : ∃ n, n = 21 := ⟨21, rfl⟩
  have hsz : ∀ w, (Go.sizeOf 59).run Tryz.prog w = .ok n w := fun w => by rw [hn]; exact Tryz.sizeOf59 w
  have hn0 : ¬ n = 0 := by omega
  have hrn : ∀ i : Ic, (ic i).size = n := fun i => by rw [hn]; exact ic_size i
  have HN := Lib.hid hn
  clear hR hnum hn
  go_enter Tryz.func10, Tryz.ntmps10
  go_wp2_with fail
  refine HNew.out.mono ?_
  rintro e w0 ⟨g, rfl, hg, r0, b0⟩
  have HG := Lib.hid hg
  have HNum0 := Lib.hid (HNum.out w0 (by rw [← HG.out]; exact r0))
  rw [← HG.out] at HNum0
  have HK0 := Lib.hid (show Keep w w0 from b0)
  have HB := Lib.hid (show g < w0.heap.size from r0.lt)
  clear hg r0 b0 HNew HNum
  go_wp2_with fail
  refine HNum0.out.mono ?_
  rintro e w1 ⟨rfl, r1, o1⟩
  have HK1 := Lib.hid (show Keep w w1 from Only.made HK0.out o1 (by rw [HG.out]; exact Nat.le_refl _))
  have HS1 := Lib.hid (show w0.heap.size ≤ w1.heap.size from o1.size)
  have HR1 := Lib.hid r1
  clear r1 o1 HNum0 HK0
  by_cases hx1 : x1 = 0
  · subst hx1
    rw [if_neg (by simp)] at HR ⊢
    by_cases hN : 201 ≤ N
    · rw [if_pos hN] at HR ⊢
      go_wp2
      go_ret2
      rw [HR.out]
      exact ⟨rfl, by decide, HK1.out⟩
    · rw [if_neg hN] at HR ⊢
      obtain ⟨Q, hQ⟩ : ∃ Q, Q = readN8 N s1 := ⟨_, rfl⟩
      rw [← hQ] at HR
      have HQ := Lib.hid hQ
      clear hQ
      go_wp2
      go_loopw [7, 22] (fun lv iv wr => RsRel g w0.heap.size w N Q lv iv wr) (fun _ iv _ => N - (intOf iv).toNat)
      case atStart => exact ⟨[], s1, rfl, Nat.zero_le _, by rw [HQ.out, preI_nil]; rfl, Own.nil _ _, HR1.out, HK1.out, HS1.out⟩
      case round =>
        obtain ⟨T, s', rfl, hTN, heq, hown, hd, hk, hb⟩ := hrel
        have HEQ := Lib.hid heq
        have HO := Lib.hid hown
        have HDr := Lib.hid hd
        have HK := Lib.hid hk
        have HBw := Lib.hid hb
        clear heq hown hd hk hb
        generalize hTl : T.length = J at *
        have HTL := Lib.hid hTl
        clear hTl
        by_cases hlt : J < N
        · have hlti : (J : Int) < N := by omega
          have HRt := Lib.hid (ichange g s' wr HDr.out)
          obtain ⟨K, hK⟩ : ∃ K, N - J = K + 1 := ⟨N - J - 1, by omega⟩
          have heq := HEQ.out
          rw [hK] at heq
          have HOE := Lib.hid (fun x (hx : chF s' = .error x) => show Q = .error x from by rw [heq, readN8_err hx]; rfl)
          have HOO := Lib.hid (fun x s2 (hx : chF s' = .ok (x, s2)) => show Q = preI (T ++ [x]) (readN8 K s2) from by rw [heq, readN8_ok hx])
          generalize chF s' = rr at HRt HOE HOO
          have HK' := Lib.hid hK
          clear heq hK HEQ
          cases rr with
          | error x =>
            have HRE := Lib.hid (show R = .error x from by rw [HR.out, HOE.out x rfl])
            go_wp2_with fail
            refine HRt.out.mono ?_
            rintro e w3 ⟨rfl, hx, t3⟩
            have hxb : (x != 0) = true := by simpa using hx
            have HK3 := Lib.hid (show Keep w w3 from Only.made HK.out t3 (by rw [HG.out]; exact Nat.le_refl _))
            have HA := Lib.hid (IAt.new w3 zeroI)
            have hst := HA.out.store zeroI
            have HKA := Lib.hid (HK3.out.trans (((Keep.refl w3).alloc (.cells (ic zeroI) 59)).setRow w3.heap.size (ic zeroI) (Nat.le_refl _)))
            clear t3
            go_wp2
            go_ret2
            rw [HRE.out]
            exact ⟨rfl, hx, HKA.out⟩
          | ok y =>
            obtain ⟨x, s2⟩ := y
            have HRE := Lib.hid (HOO.out x s2 rfl)
            go_wp2_with fail
            refine HRt.out.mono ?_
            rintro e w3 ⟨rfl, d3, t3⟩
            have HK3 := Lib.hid (show Keep w w3 from Only.made HK.out t3 (by rw [HG.out]; exact Nat.le_refl _))
            have HO3 := Lib.hid (HO.out.only t3 HB.out)
            have HD3 := Lib.hid d3
            have HB3 := Lib.hid (Nat.le_trans HBw.out t3.size)
            have HA := Lib.hid (IAt.new w3 zeroI)
            have HP := Lib.hid (HA.out.put x)
            have hst := HA.out.store x
            have hld := HP.out.whole HN.out
            have HKA := Lib.hid (((Keep.refl w3).alloc (.cells (ic zeroI) 59)).setRow w3.heap.size (ic x) (Nat.le_refl _))
            have HS1' := Lib.hid (slice_inc x)
            have HR1' := Lib.hid (fun w => Row.inc w x)
            clear t3 d3 HRt HA
            go_wp2_with (first | (refine at_slice [(0, .agg (ic x))] rfl _ (HS1'.out _) ?_) | (at_builtin; refine wp_app elI rfl _ _ rfl w0.heap.size _ _ T [x] rfl rfl ((HO3.out.keep HKA.out).keep ((Keep.refl _).alloc _)) (HR1'.out _).cells ?q1 ?q2 ?q3 ?_))
            case q1 => rw [HTL.out]; simp; omega
            case q2 => rw [HTL.out]; simp; omega
            case q3 => have := HB3.out; have := HKA.out.size; simp at this ⊢; omega
            intro v9 w9 k1 k2
            have HO9 := Lib.hid k1
            have HD9 := Lib.hid (Rd.app ((HD3.out.below HKA.out).below ((Keep.refl _).alloc _)) ((HO3.out.keep HKA.out).keep ((Keep.refl _).alloc _)) HB.out k2)
            have HT9 := Lib.hid (Own.grown (W := w) ((HO3.out.keep HKA.out).keep ((Keep.refl _).alloc _)) ((HK3.out.trans HKA.out).trans ((Keep.refl _).alloc _)) (by have := HB.out; have := HG.out; omega) k2)
            have HB9 := Lib.hid (show w0.heap.size ≤ w9.heap.size from Nat.le_trans (by have := HB3.out; have := HKA.out.size; simp at this ⊢; omega) k2.size)
            have HTL9 := Lib.hid (show (T ++ [x]).length = J + 1 from by rw [List.length_append, HTL.out]; rfl)
            clear k1 k2 hst hld
            go_wp2
            go_roundw
            case rel => exact ⟨T ++ [x], s2, by rw [HTL9.out]; go_num, by rw [HTL9.out]; omega, by rw [HRE.out, HTL9.out, show N - (J + 1) = K by have := HK'.out; omega], HO9.out, HD9.out, HT9.out, HB9.out⟩
            case measure => simp [intOf]; omega
        · have hlti : ¬ (J : Int) < N := by omega
          have HRE := Lib.hid (show Q = .ok (T, s') from by rw [HEQ.out, show N - J = 0 by omega]; simp [readN8, preI])
          have HDone := Lib.hid (done_at g s' 0 wr HDr.out)
          have hdf : V.doneF s' 0 = if s' = [] then 0 else 4 := by
            unfold V.doneF
            cases s' <;> simp
          rw [hdf] at HDone
          have HR2 := Lib.hid (show R = if s' = [] then .ok T else .error 4 from by rw [HR.out, HRE.out])
          clear hdf HEQ
          by_cases hs' : s' = []
          · rw [if_pos hs'] at HDone HR2
            clear hs'
            go_wp2_with fail
            refine HDone.out.mono ?_
            rintro e wr ⟨rfl, rfl⟩
            go_wp2
            go_ret2
            rw [HR2.out]
            exact ⟨_, rfl, HO.out.down (by have := HB.out; have := HG.out; omega), HK.out⟩
          · rw [if_neg hs'] at HDone HR2
            clear hs'
            go_wp2_with fail
            refine HDone.out.mono ?_
            rintro e wr ⟨rfl, rfl⟩
            go_wp2
            go_ret2
            rw [HR2.out]
            exact ⟨rfl, by decide, HK.out⟩
  · have hx1b : (x1 != 0) = true := by simpa using hx1
    rw [if_pos hx1] at HR ⊢
    go_wp2
    go_ret2
    rw [HR.out]
    exact ⟨rfl, hx1, HK1.out⟩
end Go.Proofs.YtgkgpdlakamgiaaGreat
