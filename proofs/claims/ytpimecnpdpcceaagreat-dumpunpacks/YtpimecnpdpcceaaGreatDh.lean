/- Proved: what dump's routes and Read answer. Condition: the reader's cells are known (Dr); the text's length fits. -/
import Derived.Test.YtpimecnpdpcceaaGreatDg
import Derived.Test.YtpimecnpdpcceaaGreatMs
namespace Go.Proofs.YtpimecnpdpcceaaGreat
open Go.RowKit

def preR (T : List (Dm.Rw Px)) : Except Int (List (Dm.Rw Px) × List UInt8) → Except Int (List (Dm.Rw Px) × List UInt8)
  | .error x => .error x
  | .ok (l, s) => .ok (T ++ l, s)
theorem preR_nil (r : Except Int (List (Dm.Rw Px) × List UInt8)) : preR [] r = r := by cases r <;> rfl
theorem readN_err {k : Nat} {prev : Option Px} {last s : List UInt8} {x : Int} (h : Dm.readOne codP prev last s = .error x) : Dm.readN codP (k + 1) prev last s = .error x := by rw [Dm.readN, h]
theorem readN_ok {k : Nat} {prev : Option Px} {last s c s' : List UInt8} {x : Dm.Rw Px} (h : Dm.readOne codP prev last s = .ok (x, c, s')) (T : List (Dm.Rw Px)) : preR T (Dm.readN codP (k + 1) prev last s) = preR (T ++ [x]) (Dm.readN codP k (some x.p) c s') := by
  rw [Dm.readN, h]
  simp only
  cases Dm.readN codP k (some x.p) c s' with
  | error y => rfl
  | ok y => simp [preR]
def routesF (s : List UInt8) : Except Int (List (Dm.Rw Px) × List UInt8) :=
  let (n, s1, x1) := V.uintF s 0
  if x1 ≠ 0 then .error x1 else if 300 < n then .error 7 else Dm.readN codP n none [] s1
theorem readD_eq (s : List UInt8) : Dm.readD codP s = match routesF s with
    | .error x => .error x
    | .ok (l, s2) => if s2 = [] then .ok l else .error 4 := by
  unfold Dm.readD routesF
  generalize V.uintF s 0 = c
  obtain ⟨n, s1, x1⟩ := c
  simp only
  by_cases h1 : x1 ≠ 0
  · rw [if_pos h1, if_pos h1]
  · rw [if_neg h1, if_neg h1]
    by_cases h2 : 300 < n
    · rw [if_pos h2, if_pos h2]
    · rw [if_neg h2, if_neg h2]
      cases Dm.readN codP n none [] s1 with
      | error y => rfl
      | ok y => rfl
theorem Own.two {α : Type} {t k : Nat} {enc : α → List Value} {B b g : Nat} {w w' : World} {v : Value} {l : List α} (h : Own t k enc B w v l) (q : Two b g w w') (hb : b < B) (hg : g < B) : Own t k enc B w' v l := by
  refine ⟨h.1, ?_⟩
  rcases h.2 with hn | ⟨g', cap, cur, rfl, hB, hgg, rest⟩
  · exact .inl hn
  · exact .inr ⟨g', cap, cur, rfl, hB, (q.block g' (block_lt hgg) (by omega) (by omega)).trans hgg, rest⟩
theorem Dr.app {α : Type} {t k : Nat} {enc : α → List Value} {B b g : Nat} {s last : List UInt8} {P : Px} {w w' : World} {v : Value} {l : List α} (h : Dr w b g s last P) (ho : Own t k enc B w v l) (hb : b < B) (hg : g < B) (hgr : w.grownBy w' v.ownBlock) : Dr w' b g s last P := by
  have hx : ∀ c, c < B → c < w.heap.size → w'.heap[c]? = w.heap[c]? := fun c hc hl => hgr.block c hl fun e => by
    have := (World.ownsRow.lt ho c e.symm).1
    omega
  obtain ⟨h1, h2⟩ := h.lt
  refine ⟨(hx b hb h1).trans h.block, ?_, h.ne, h.len, h.short⟩
  have hb2 := hx g hg h2
  exact ⟨(World.cell?_of_block (a := ⟨g, 0, none⟩) hb2).trans h.rd.rest, (World.cell?_of_block (a := ⟨g, 1, none⟩) hb2).trans h.rd.err, (World.frozen?_of_block (a := ⟨g, 0, none⟩) hb2).trans h.rd.free0, (World.frozen?_of_block (a := ⟨g, 1, none⟩) hb2).trans h.rd.free1, h.rd.len⟩
theorem Two.grown {α : Type} {t k : Nat} {enc : α → List Value} {B b g : Nat} {u w w' : World} {v : Value} {l : List α} (h : Two b g u w) (ho : Own t k enc B w v l) (hB : u.heap.size ≤ B) (hgr : w.grownBy w' v.ownBlock) : Two b g u w' :=
  ⟨hgr.os.trans h.os, hgr.tape.trans h.tape, hgr.output.trans h.output, Nat.le_trans h.size hgr.size, fun i hi h1 h2 => (hgr.block i (Nat.lt_of_lt_of_le hi h.size) fun e => by
    have := (World.ownsRow.lt ho i e.symm).1
    omega).trans (h.block i hi h1 h2)⟩
def DsRel (b g : Nat) (w : World) (N : Nat) (r0 : Except Int (List (Dm.Rw Px) × List UInt8)) (lv iv : Value) (wr : World) : Prop :=
  ∃ (T : List (Dm.Rw Px)) (last s : List UInt8) (P : Px), iv = .int .u64 (T.length : Nat) ∧ T.length ≤ N ∧ r0 = preR T (Dm.readN codP (N - T.length) (prevOf last P) last s) ∧ Own 44 20 rl w.heap.size wr lv (T.map rtOf) ∧ Dr wr b g s last P ∧ Two b g w wr
def RoutesPost (b g : Nat) (w : World) (r : Except Int (List (Dm.Rw Px) × List UInt8)) (e : Ending) (w' : World) : Prop := match r with
  | .error x => e = .returned (.tuple #[.slice none 0 0, .int .i64 x]) ∧ x ≠ 0 ∧ Two b g w w'
  | .ok (l, s) => ∃ v, e = .returned (.tuple #[v, .int .i64 0]) ∧ Row rl 44 w' v (l.map rtOf) ∧ Rd w' g s 0 ∧ w'.cell? ⟨b, 0, none⟩ = some (.pointer (some ⟨g, 0, none⟩)) ∧ Two b g w w'

set_option maxRecDepth 100000 in
set_option maxHeartbeats 4000000 in
theorem droutes (b g : Nat) (s : List UInt8) (w : World) (h : Dr w b g s [] zeroP) : Calls Tryz.prog 24 #[.pointer (some ⟨b, 0, none⟩)] w (RoutesPost b g w (routesF s)) := by
  obtain ⟨R, hR⟩ : ∃ R, R = routesF s := ⟨_, rfl⟩
  rw [← hR]
  obtain ⟨hblt, hglt⟩ := h.lt
  have hbg := h.ne
  have hnum := dnum b g 301 7 s w h.c0 hbg h.rd (by omega)
  unfold routesF at hR
  unfold NumPost7 numF at hnum
  generalize V.uintF s 0 = c at hR hnum
  obtain ⟨N, s1, x1⟩ := c
  simp only at hR hnum
  have HR := Lib.hid hR
  have HNum := Lib.hid hnum
  have HD := Lib.hid h
  obtain ⟨hz, hi⟩ := zero_of_info info34b
  obtain ⟨n, hn⟩ : ∃ n, n = 20 := ⟨20, rfl⟩
  have hsz : ∀ w, (Go.sizeOf 44).run Tryz.prog w = .ok n w := fun w => by rw [hn]; exact Tryz.sizeOf44 w
  have hn0 : ¬ n = 0 := by omega
  have hrn : ∀ r : Rt, (rc r).size = n := fun r => by rw [hn]; exact rc_size r
  have HN := Lib.hid hn
  clear hR hnum h hn
  go_enter Tryz.func24, Tryz.ntmps24
  go_wp2_with fail
  refine HNum.out.mono ?_
  rintro e w1 ⟨rfl, r1, o1⟩
  have HT1 := Lib.hid (show Two b g w w1 from Two.right o1)
  by_cases hx1 : x1 = 0
  · have HRd := Lib.hid (show Rd w1 g s1 0 from by rw [← hx1]; exact r1)
    have HD1 := Lib.hid (HD.out.num o1 HRd.out)
    rw [if_neg (by simp [hx1])]
    have HR1 := Lib.hid (show R = _ from by rw [HR.out, if_neg (by simp [hx1])])
    by_cases hN : 301 ≤ N
    · rw [if_pos hN]
      have HR2 := Lib.hid (show R = .error 7 from by rw [HR1.out, if_pos (by omega)])
      clear r1 o1
      go_wp2
      go_ret2
      rw [HR2.out]
      exact ⟨rfl, by decide, HT1.out⟩
    · rw [if_neg hN]
      have HR2 := Lib.hid (show R = Dm.readN codP N none [] s1 from by rw [HR1.out, if_neg (by omega)])
      clear r1 o1 HR HR1 HNum
      go_wp2
      go_loopw [6, 18] (fun lv iv wr => DsRel b g w N R lv iv wr) (fun _ iv _ => N - (intOf iv).toNat)
      case atStart => exact ⟨[], [], s1, zeroP, rfl, Nat.zero_le _, by rw [HR2.out, preR_nil]; rfl, Own.nil _ _, HD1.out, HT1.out⟩
      case round =>
        obtain ⟨T, last, s', P, rfl, hTN, heq, hown, hd, ht⟩ := hrel
        have HEQ := Lib.hid heq
        have HO := Lib.hid hown
        have HDr := Lib.hid hd
        have HTw := Lib.hid ht
        clear heq hown hd ht
        generalize hTl : T.length = J at *
        have HTL := Lib.hid hTl
        clear hTl
        by_cases hlt : J < N
        · have hlti : (J : Int) < N := by omega
          have HRt := Lib.hid (droute b g s' last P wr HDr.out)
          rw [routeF_eq] at HRt
          obtain ⟨K, hK⟩ : ∃ K, N - J = K + 1 := ⟨N - J - 1, by omega⟩
          have heq := HEQ.out
          rw [hK] at heq
          have HOE := Lib.hid (fun x (hx : Dm.readOne codP (prevOf last P) last s' = .error x) => show R = .error x from by rw [heq, readN_err hx]; rfl)
          have HOO := Lib.hid (fun x c s2 (hx : Dm.readOne codP (prevOf last P) last s' = .ok (x, c, s2)) => show R = preR (T ++ [x]) (Dm.readN codP K (some x.p) c s2) from by rw [heq, readN_ok hx])
          generalize Dm.readOne codP (prevOf last P) last s' = rr at HRt HOE HOO
          have HK := Lib.hid hK
          clear heq hK HEQ
          cases rr with
          | error x =>
            have HRE := Lib.hid (HOE.out x rfl)
            go_wp2_with fail
            refine HRt.out.mono ?_
            rintro e w3 ⟨rfl, hx, t3⟩
            have hxb : (x != 0) = true := by simpa using hx
            have HT3 := Lib.hid (HTw.out.trans t3)
            have HA := Lib.hid (RAt.new w3 zeroR)
            have hst := HA.out.store zeroR
            have HKA := Lib.hid (((Keep.refl w3).alloc (.cells (rc zeroR) 44)).setRow w3.heap.size (rc zeroR) (Nat.le_refl _))
            clear t3
            go_wp2
            go_ret2
            rw [HRE.out]
            exact ⟨rfl, hx, HT3.out.trans (Two.keep HKA.out)⟩
          | ok y =>
            obtain ⟨x, c, s2⟩ := y
            have HRE := Lib.hid (HOO.out x c s2 rfl)
            go_wp2_with fail
            refine HRt.out.mono ?_
            rintro e w3 ⟨rfl, hp16, hcne, d3, t3⟩
            have HT3 := Lib.hid (HTw.out.trans t3)
            have HO3 := Lib.hid (HO.out.two t3 hblt hglt)
            have HD3 := Lib.hid d3
            have HA := Lib.hid (RAt.new w3 zeroR)
            have HP := Lib.hid (HA.out.put (rtOf x))
            have hst := HA.out.store (rtOf x)
            have hld := HP.out.whole HN.out
            have HKA := Lib.hid (((Keep.refl w3).alloc (.cells (rc zeroR) 44)).setRow w3.heap.size (rc (rtOf x)) (Nat.le_refl _))
            have HS1 := Lib.hid (slice_one (rtOf x))
            have HR1 := Lib.hid (fun w => Row.one w (rtOf x))
            have HPv := Lib.hid (show prevOf c x.p = some x.p from if_neg hcne)
            clear t3 d3 hcne HRt HA
            go_wp2_with (first | (refine at_slice [(0, .agg (rc (rtOf x)))] rfl _ (HS1.out _) ?_) | (at_builtin; refine wp_app elR rfl _ _ rfl w.heap.size _ _ (T.map rtOf) [rtOf x] rfl rfl ((HO3.out.keep HKA.out).keep ((Keep.refl _).alloc _)) (HR1.out _).cells ?q1 ?q2 ?q3 ?_))
            case q1 => rw [List.length_map, HTL.out]; simp; omega
            case q2 => rw [List.length_map, HTL.out]; simp; omega
            case q3 => have := (HT3.out.trans (Two.keep HKA.out)).size; simp at this ⊢; omega
            intro v9 w9 k1 k2
            have HO9 := Lib.hid (show Own 44 20 rl w.heap.size w9 v9 ((T ++ [x]).map rtOf) from by rw [List.map_append]; exact k1)
            have HD9 := Lib.hid (((HD3.out.keep HKA.out).keep ((Keep.refl _).alloc _)).app ((HO3.out.keep HKA.out).keep ((Keep.refl _).alloc _)) hblt hglt k2)
            have HT9 := Lib.hid (((HT3.out.trans (Two.keep HKA.out)).trans (Two.keep ((Keep.refl _).alloc _))).grown ((HO3.out.keep HKA.out).keep ((Keep.refl _).alloc _)) (Nat.le_refl _) k2)
            have HTL9 := Lib.hid (show (T ++ [x]).length = J + 1 from by rw [List.length_append, HTL.out]; rfl)
            clear k1 k2 hst hld
            go_wp2
            go_roundw
            case rel => exact ⟨T ++ [x], c, s2, x.p, by rw [HTL9.out]; go_num, by rw [HTL9.out]; omega, by rw [HRE.out, HPv.out, HTL9.out, show N - (J + 1) = K by have := HK.out; omega], HO9.out, HD9.out, HT9.out⟩
            case measure => simp [intOf]; omega
        · have hlti : ¬ (J : Int) < N := by omega
          have HRE := Lib.hid (show R = .ok (T, s') from by rw [HEQ.out, show N - J = 0 by omega]; simp [Dm.readN, preR])
          have HRow := Lib.hid (HO.out.row elR)
          go_wp2
          go_ret2
          rw [HRE.out]
          exact ⟨_, rfl, HRow.out, HDr.out.rd, HDr.out.c0, HTw.out⟩
  · have hx1b : (x1 != 0) = true := by simpa using hx1
    rw [if_pos hx1]
    have HRE := Lib.hid (show R = .error x1 from by rw [HR.out, if_pos hx1])
    clear r1 o1
    go_wp2
    go_ret2
    rw [HRE.out]
    exact ⟨rfl, hx1, HT1.out⟩
end Go.Proofs.YtpimecnpdpcceaaGreat
