/- Proved: for every three texts the law CrcLinear returns true (the sums of three texts of one length, and of the text that is all of them, exclusive-or'ed, come to nought together), and its arguments read behind the call as they read before. No condition. -/
import Derived.Test.YteiafdokbhigoaaE
import Derived.ProofKit
import Derived.ShutString
import Derived.ChangeOld
import Derived.Laws.MakeOwn
namespace Go.Proofs.Yteiafdokbhigoaa.LCrcLinear
open Go.RowKit

def x3 (a b c : UInt8) : UInt8 := UInt8.ofNat (a.toNat ^^^ b.toNat ^^^ c.toNat)
def zip3 : List UInt8 → List UInt8 → List UInt8 → List UInt8
  | a :: s, b :: t, c :: u => x3 a b c :: zip3 s t u
  | _, _, _ => []
theorem x3_nat (a b c : UInt8) : (x3 a b c).toNat = a.toNat ^^^ b.toNat ^^^ c.toNat :=
  K.toNat_byte _ (Nat.xor_lt_two_pow (n := 8) (Nat.xor_lt_two_pow a.toNat_lt b.toNat_lt) c.toNat_lt)
theorem zip3_len : ∀ (s t u : List UInt8), t.length = s.length → u.length = s.length → (zip3 s t u).length = s.length
  | [], _, _, _, _ => by simp [zip3]
  | a :: s, b :: t, c :: u, h1, h2 => by
    rw [zip3, List.length_cons, zip3_len s t u (by simpa using h1) (by simpa using h2), List.length_cons]
  | _ :: _, [], _, h1, _ => by simp at h1
  | _ :: _, _ :: _, [], _, h2 => by simp at h2
theorem zip3_get : ∀ (s t u : List UInt8) (j : Nat) (h1 : j < s.length) (h2 : j < t.length) (h3 : j < u.length) (h4 : j < (zip3 s t u).length), (zip3 s t u)[j] = x3 s[j] t[j] u[j]
  | a :: s, b :: t, c :: u, 0, _, _, _, _ => rfl
  | a :: s, b :: t, c :: u, j + 1, h1, h2, h3, h4 => by
    simp only [zip3, List.getElem_cons_succ]
    exact zip3_get s t u j (by simpa using h1) (by simpa using h2) (by simpa using h3) (by simpa [zip3] using h4)
theorem byte3 (a b c : UInt8) : List.zipWith (fun x y => x ^^ y) (K.byteBits a) (K.byteBits b) = List.zipWith (fun x y => x ^^ y) (K.byteBits c) (K.byteBits (x3 a b c)) := by
  unfold K.byteBits
  rw [x3_nat]
  have h : ∀ i, (c.toNat.testBit i ^^ (a.toNat ^^^ b.toNat ^^^ c.toNat).testBit i) = (a.toNat.testBit i ^^ b.toNat.testBit i) := fun i => by
    rw [Nat.testBit_xor, Nat.testBit_xor]
    cases a.toNat.testBit i <;> cases b.toNat.testBit i <;> cases c.toNat.testBit i <;> rfl
  simp only [List.zipWith_cons_cons, List.zipWith_nil_right, h]
theorem zip3_bits : ∀ (s t u : List UInt8), t.length = s.length → u.length = s.length →
    List.zipWith (fun x y => x ^^ y) (K.bitsOf s) (K.bitsOf t) = List.zipWith (fun x y => x ^^ y) (K.bitsOf u) (K.bitsOf (zip3 s t u))
  | [], t, u, h1, h2 => by
    obtain rfl : t = [] := by simpa using h1
    obtain rfl : u = [] := by simpa using h2
    rfl
  | a :: s, b :: t, c :: u, h1, h2 => by
    rw [zip3, K.bitsOf, K.bitsOf, K.bitsOf, K.bitsOf, List.zipWith_append (l₁ := K.byteBits a) (l₂ := K.byteBits b) (by rfl), List.zipWith_append (l₁ := K.byteBits c) (l₂ := K.byteBits (x3 a b c)) (by rfl), byte3 a b c, zip3_bits s t u (by simpa using h1) (by simpa using h2)]
  | _ :: _, [], _, h1, _ => by simp at h1
  | _ :: _, _ :: _, [], _, h2 => by simp at h2
theorem xor_both (x y o : Nat) : (x ^^^ o) ^^^ (y ^^^ o) = x ^^^ y := by
  rw [Nat.xor_comm y o, Nat.xor_assoc x o, ← Nat.xor_assoc o o, Nat.xor_self, Nat.zero_xor]
theorem sums (s t u : List UInt8) (h1 : t.length = s.length) (h2 : u.length = s.length) : K.sum s ^^^ K.sum t ^^^ K.sum u ^^^ K.sum (zip3 s t u) = 0 := by
  have e1 := K.run_xor (K.bitsOf s) (K.bitsOf t) K.ones K.ones (by rw [K.bitsOf_len, K.bitsOf_len, h1])
  have e2 := K.run_xor (K.bitsOf u) (K.bitsOf (zip3 s t u)) K.ones K.ones (by rw [K.bitsOf_len, K.bitsOf_len, zip3_len s t u h1 h2, h2])
  rw [zip3_bits s t u h1 h2] at e1
  unfold K.sum
  rw [xor_both, Nat.xor_assoc, xor_both, e1, ← e2, Nat.xor_self]

theorem xor3 (a b c : UInt8) : bits .xor .u8 (bits .xor .u8 (a.toNat : Int) (b.toNat : Int)) (c.toNat : Int) = ((a.toNat ^^^ b.toNat ^^^ c.toNat : Nat) : Int) := by
  rw [u8_xor_nat a.toNat b.toNat a.toNat_lt b.toNat_lt]
  exact u8_xor_nat _ c.toNat (Nat.xor_lt_two_pow (n := 8) a.toNat_lt b.toNat_lt) c.toNat_lt

theorem info5 : (Try.prog.info? 5).map (fun i => (i.zero, i.size, i.bytes)) = some (some (.int .u8 0), 1, 1) := by kernel_rfl
/-- 'make([]byte, n)'. -/
theorem make_bytes (n : Nat) (hn : n ≤ 1000000000) (w : World) : ∃ w2, (Instr.makeSlice 40 (.int .i64 n) (.int .i64 n)).run Try.prog w = .ok (.slice (some ⟨w.heap.size, 0, none⟩) n n) w2 ∧ Bytes w2 w.heap.size (List.replicate n 0) ∧ Same w w2 ∧ w.heap.size < w2.heap.size := by
  have hi := info5
  cases hq : Try.prog.info? 5 with
  | none => rw [hq] at hi; simp at hi
  | some i =>
    rw [hq] at hi
    simp only [Option.map_some, Option.some.injEq, Prod.mk.injEq] at hi
    obtain ⟨hz, h1, h2⟩ := hi
    have hr := run_make (P := Try.prog) w 40 5 i (.int .u8 0) Try.underlying40 hq hz .i64 .i64 n n (by omega) (by omega) (by rw [h2]; omega) (by omega)
    rw [h1, Nat.mul_one, Int.toNat_natCast] at hr
    refine ⟨_, hr, ⟨fun j hj => ?_, fun j hj => ?_⟩, (Same.refl w).alloc _, by simp⟩
    · have hj2 : j < n := by simpa using hj
      have ha := heap_alloc_last w (.cells (madeCells (Value.int .u8 0).cells n) 5 (0, 0))
      rw [cell_of_row _ _ _ _ _ _ ha, ← Array.getElem?_toList, show (Value.int IntKind.u8 0).cells = #[.int .u8 0] from rfl, toList_madeCells_one]
      simp [hj2]
    · have ha := heap_alloc_last w (.cells (madeCells (Value.int .u8 0).cells n) 5 (0, 0))
      unfold World.frozen?
      rw [ha]
      simp
theorem part_len (z : List UInt8) (n k : Nat) (hz : z.length = n) (hk : k ≤ n) : (z.take k ++ List.replicate (n - k) 0).length = n := by
  rw [List.length_append, List.length_take, List.length_replicate]
  omega
theorem part_set (z : List UInt8) (n k : Nat) (hz : z.length = n) (hk : k < n) : (z.take k ++ List.replicate (n - k) 0).set k (z[k]'(by omega)) = z.take (k + 1) ++ List.replicate (n - (k + 1)) 0 := by
  have h1 : (z.take k).length = k := by rw [List.length_take]; omega
  rw [List.set_append_right _ _ (by omega), h1, Nat.sub_self, show n - k = (n - (k + 1)) + 1 by omega, List.replicate_succ, List.set_cons_zero, List.take_succ_eq_append_getElem (by omega), List.append_assoc]
  rfl
theorem Bytes.kept {w w' : World} {b : Nat} {l : List UInt8} (h : Bytes w b l) (hb : b < w.heap.size) (k : Same w w') : Bytes w' b l :=
  ⟨fun j hj => (k.cell hb).trans (h.cell j hj), fun j hj => (k.frozen hb).trans (h.free j hj)⟩
theorem Bytes.lt {w : World} {b : Nat} {l : List UInt8} (h : Bytes w b l) (hl : 0 < l.length) : b < w.heap.size := by
  have h0 := h.cell 0 hl
  by_cases hb : b < w.heap.size
  · exact hb
  · have : w.heap[b]? = none := by simp; omega
    simp [World.cell?, this] at h0
theorem backN {w : World} {b : Nat} {l : List UInt8} (h : Bytes w b l) (n cap : Nat) (hn : l.length = n) : (convert 40 9 (.slice (some ⟨b, 0, none⟩) n cap)).run Try.prog w = .ok (.string ⟨l.toArray⟩) w := by
  subst hn
  exact h.back cap

def LinRel (s t u : List UInt8) (w : World) (g : Nat) (i : Value) (wr : World) : Prop :=
  ∃ k : Nat, i = .int .i64 k ∧ k ≤ s.length ∧ g < wr.heap.size ∧ Bytes wr g ((zip3 s t u).take k ++ List.replicate (s.length - k) 0) ∧ Same w wr

set_option maxRecDepth 100000 in
set_option maxHeartbeats 1000000 in
theorem walk (s t u : List UInt8) (w : World) (hs : s.length ≤ 9223372036854775807) (ht : t.length ≤ 9223372036854775807) (hu : u.length ≤ 9223372036854775807) :
    Calls Try.prog 7 #[.string ⟨s.toArray⟩, .string ⟨t.toArray⟩, .string ⟨u.toArray⟩] w fun e w' => e = .returned (.bool true) ∧ Below w.heap.size w w' := by
  by_cases hl : s.length ≤ 1000 ∧ t.length = s.length ∧ u.length = s.length
  · obtain ⟨hl1, hl2, hl3⟩ := hl
    have c15s := Lib.hid (sum s (by omega))
    have c15t := Lib.hid (sum t (by omega))
    have c15u := Lib.hid (sum u (by omega))
    have hzl := zip3_len s t u hl2 hl3
    have c15z := Lib.hid (sum (zip3 s t u) (by omega))
    have hx1 := u32_xor_nat (K.sum s) (K.sum t) (K.sum_lt s) (K.sum_lt t)
    have hx2 := u32_xor_nat (K.sum s ^^^ K.sum t) (K.sum u) (Nat.xor_lt_two_pow (n := 32) (K.sum_lt s) (K.sum_lt t)) (K.sum_lt u)
    have hx3 := u32_xor_nat (K.sum s ^^^ K.sum t ^^^ K.sum u) (K.sum (zip3 s t u)) (Nat.xor_lt_two_pow (n := 32) (Nat.xor_lt_two_pow (n := 32) (K.sum_lt s) (K.sum_lt t)) (K.sum_lt u)) (K.sum_lt _)
    rw [sums s t u hl2 hl3] at hx3
    generalize K.sum s ^^^ K.sum t ^^^ K.sum u = x2 at *
    generalize K.sum s ^^^ K.sum t = x1 at *
    generalize K.sum (zip3 s t u) = yz at *
    generalize K.sum s = ys at *
    generalize K.sum t = yt at *
    generalize K.sum u = yu at *
    go_enter Try.func7, Try.ntmps7
    go_wp2_with fail
    refine (awake w).mono ?_
    rintro e w1 ⟨rfl, b1⟩
    obtain ⟨w2, hmk, hby, b2, hlt⟩ := make_bytes s.length (by omega) w1
    have HB := Lib.hid hby
    have BB := Lib.hid (b1.trans b2)
    have Hg := Lib.hid b1.size
    have Hg2 := Lib.hid hlt
    clear hby b1 b2 hlt
    go_wp2
    go_loopw [36] (fun i wr => LinRel s t u w w1.heap.size i wr) (fun i _ => s.length - (intOf i).toNat)
    case atStart => exact ⟨0, rfl, by omega, Hg2.out, by simpa using HB.out, BB.out⟩
    case round =>
      obtain ⟨k, rfl, hk, hg, hby, hsame⟩ := hrel
      have HB2 := Lib.hid hby
      have HS2 := Lib.hid hsame
      have HG2 := Lib.hid hg
      clear hby hsame hg hmk HB BB
      by_cases hk2 : k < s.length
      · have hpl := part_len (zip3 s t u) s.length k hzl hk
        have hcell := HB2.out.cell k (by omega)
        have hfree := HB2.out.free k (by omega)
        have hx := xor3 s[k] t[k] u[k]
        have hg1 : ∀ h, (({ data := s.toArray } : ByteArray)[k]'h) = s[k] := fun _ => rfl
        have hg2 : ∀ h, (({ data := t.toArray } : ByteArray)[k]'h) = t[k] := fun _ => rfl
        have hg3 : ∀ h, (({ data := u.toArray } : ByteArray)[k]'h) = u[k] := fun _ => rfl
        go_wp2
        go_region
        go_wp2
        go_roundw
        case rel =>
          refine ⟨k + 1, by go_num, by omega, by have := HG2.out; simpa [World.setCell] using this, ?_, (HS2.out.setCell _ _ _ Hg.out).drew⟩
          have HB3 := (HB2.out.set k (by omega) (s[k].toNat ^^^ t[k].toNat ^^^ u[k].toNat) (by rw [← x3_nat]; exact UInt8.toNat_lt _)).drew
          have e : UInt8.ofNat (s[k].toNat ^^^ t[k].toNat ^^^ u[k].toNat) = (zip3 s t u)[k]'(by omega) := (zip3_get s t u k hk2 (by omega) (by omega) (by omega)).symm
          rw [e, part_set (zip3 s t u) s.length k hzl hk2] at HB3
          exact HB3
        case measure => simp [intOf]; omega
      · obtain rfl : k = s.length := by omega
        rw [Nat.sub_self, List.replicate_zero, List.append_nil, ← hzl, List.take_length] at HB2
        have hbk : ∀ v : SW wr, (convert 40 9 (.slice (some ⟨w1.heap.size, 0, none⟩) s.length s.length)).run Try.prog v.1 = .ok (.string ⟨(zip3 s t u).toArray⟩) v.1 := fun v => backN (Bytes.kept HB2.out HG2.out v.2) _ _ hzl
        go_wp2_with fail
        refine wp_region_same (Same.refl wr) (by kernel_rfl) (by kernel_rfl) ?_
        repeat (first | go_big_quiet_step (first | exact c15s.out.at _ | exact c15t.out.at _ | exact c15u.out.at _ | exact c15z.out.at _) | quiet_step (first | exact c15s.out.at _ | exact c15t.out.at _ | exact c15u.out.at _ | exact c15z.out.at _))
        refine wpQuiet_nil ?_
        rintro w6 ⟨⟨w7, b7⟩, rfl⟩
        go_wp2
        go_ret
        exact ⟨rfl, HS2.out.trans b7⟩
  · by_cases h1 : s.length ≤ 1000
    · by_cases h2 : t.length = s.length
      · have h3 : ((u.length : Int) != (s.length : Int)) = true := by
          have : ¬ u.length = s.length := fun h => hl ⟨h1, h2, h⟩
          simp
          omega
        have h2i : ((t.length : Int) != (s.length : Int)) = false := by simp; omega
        go_enter Try.func7, Try.ntmps7
        go_wp2_with fail
        refine (awake w).mono ?_
        rintro e w1 ⟨rfl, b1⟩
        go_wp2_with fail
        refine (awake w1).mono ?_
        rintro e w2 ⟨rfl, b2⟩
        go_wp2
        go_ret
        exact ⟨rfl, b1.trans b2⟩
      · have h2i : ((t.length : Int) != (s.length : Int)) = true := by simp; omega
        go_enter Try.func7, Try.ntmps7
        go_wp2_with fail
        refine (awake w).mono ?_
        rintro e w1 ⟨rfl, b1⟩
        go_wp2_with fail
        refine (awake w1).mono ?_
        rintro e w2 ⟨rfl, b2⟩
        go_wp2
        go_ret
        exact ⟨rfl, b1.trans b2⟩
    · skip
      go_enter Try.func7, Try.ntmps7
      go_wp2_with fail
      refine (awake w).mono ?_
      rintro e w1 ⟨rfl, b1⟩
      go_wp2_with fail
      refine (awake w1).mono ?_
      rintro e w2 ⟨rfl, b2⟩
      go_wp2
      go_ret
      exact ⟨rfl, b1.trans b2⟩

open Go.ChangeShapes Go.WideShapes Go.ChangeAt
theorem own : ownKnob Try.prog.godebug = none := by kernel_rfl
theorem laidOut : laidOutB Try.prog = true := by kernel_rfl

set_option maxRecDepth 100000 in
theorem lifted (os : Os) (started : os.Started) (H : Type) (enc : TypeId × Value → H) :
    ReturnsInHanded {} Try.checked os 7 .any (Rows.crcLinearSpec.pre6 enc Try.prog Try.f7 Rows.crcLinearRow.domain false) (Rows.crcLinearSpec.post enc Try.prog Try.f7 false true false false) := by
  refine returnsInHanded_of_change (C := Try.checked) own started (by kernel_rfl) Try.func7
    (ChangeSpec.witness6 (enc := enc) (C := Try.checked) false ⟨#[], #[.string ⟨#[]⟩, .string ⟨#[]⟩, .string ⟨#[]⟩], []⟩ 8 (by kernel_rfl) (by kernel_rfl) (by kernel_rfl) (by kernel_rfl)) ?_
  intro W base args ds gs before hval0 hW hcnd _
  have hval : ∀ (j : Nat) t v, Try.f7.params[j]? = some t → args[j]? = some v → Value.okWide Try.prog W .any base t v := hval0
  have hW' := hW
  obtain ⟨p, q, hA0, hV, rfl, hfz, hnd⟩ := hW
  have hA : DataW.TrodAll enc Try.prog W 0 (fun _ => true) true Try.f7.params.toList args.toList ds p := hA0

  rw [Try.params7] at hA hval
  obtain ⟨v0, vs0, d0, ds0, p0, q0, hargs, rfl, rfl, h0, r0⟩ := trodAll_cons hA
  obtain ⟨v1, vs1, d1, ds1, p1, q1, rfl, rfl, rfl, h1, r1⟩ := trodAll_cons r0
  obtain ⟨v2, vs2, d2, ds2, p2, q2, rfl, rfl, rfl, h2, r2⟩ := trodAll_cons r1
  obtain ⟨rfl, rfl, rfl⟩ := trodAll_nil r2
  obtain rfl : args = #[v0, v1, v2] := by cases args; simp_all
  obtain ⟨rfl, rfl⟩ := trodVars_none hV
  have k0 := h0
  have lt0 : ∀ x ∈ p0, x.block < W.heap.size := by obtain ⟨m, hm⟩ := k0; exact DataW.trod_lt m _ _ _ hm
  have k1 := h1
  have lt1 : ∀ x ∈ p1, x.block < W.heap.size := by obtain ⟨m, hm⟩ := k1; exact DataW.trod_lt m _ _ _ hm
  have k2 := h2
  have lt2 : ∀ x ∈ p2, x.block < W.heap.size := by obtain ⟨m, hm⟩ := k2; exact DataW.trod_lt m _ _ _ hm
  obtain ⟨a0, rfl, _, _, w0⟩ := Go.ChangeMaps.open_string Try.underlying9 (hval 0 9 v0 rfl rfl) h0
  obtain ⟨a1, rfl, _, _, w1⟩ := Go.ChangeMaps.open_string Try.underlying9 (hval 1 9 v1 rfl rfl) h1
  obtain ⟨a2, rfl, _, _, w2⟩ := Go.ChangeMaps.open_string Try.underlying9 (hval 2 9 v2 rfl rfl) h2
  clear hA0 hval0
  refine (walk a0.data.toList a1.data.toList a2.data.toList W (by simpa [maxLen] using w0) (by simpa [maxLen] using w1) (by simpa [maxLen] using w2)).mono fun e W' ⟨he, bel⟩ => ?_
  subst he
  exact ⟨_, rfl, _, _, _, [], _, [], hW', trodAll_mk1 (shut_bool Try.underlying4 _), (trodAll_cons_mk (Below.trod laidOut (by kernel_rfl) (of_decide_eq_true (by kernel_rfl)) k0 bel lt0) (trodAll_cons_mk (Below.trod laidOut (by kernel_rfl) (of_decide_eq_true (by kernel_rfl)) k1 bel lt1) (trodAll_cons_mk (Below.trod laidOut (by kernel_rfl) (of_decide_eq_true (by kernel_rfl)) k2 bel lt2) trodAll_mk0))), rfl, bel.frame _, fun h => by cases h⟩

theorem over : Rows.crcLinearRow.holds Try.pinned (OpenSpec.ofChange Rows.crcLinearSpec) :=
  OpenClaim.holds_of_wide 7 Try.f7 rfl rfl rfl rfl rfl rfl rfl ⟨rfl, rfl, rfl, rfl, rfl⟩ rfl rfl rfl rfl rfl (by kernel_rfl) Try.func7 (by kernel_rfl)
    (of_decide_eq_true (by kernel_rfl)) (by unfold Func.isWrapper; first | (rw [if_pos (by decide +kernel)]; kernel_rfl) | (rw [if_neg (by decide +kernel)]; exact ⟨rfl, rfl⟩))
    (fun os started H enc _ => lifted os started H enc)
end Go.Proofs.Yteiafdokbhigoaa.LCrcLinear

namespace Go.Proofs.Yteiafdokbhigoaa
theorem crcLinear_holds : Rows.CrcLinearSaid := LCrcLinear.over
#print axioms crcLinear_holds
end Go.Proofs.Yteiafdokbhigoaa

