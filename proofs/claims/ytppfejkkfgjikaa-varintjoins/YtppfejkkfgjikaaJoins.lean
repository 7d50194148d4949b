/- Proved: for every two lists of numbers the law VarintJoins returns true (numbers, one behind the other, are read in order; the bytes of all are those of each, joined), and its arguments read behind the call as they read before. No condition. -/
import Derived.Test.YtppfejkkfgjikaaO2
import Derived.Test.YtppfejkkfgjikaaN
import Derived.ShutString
import Derived.ChangeOld
namespace Go.Proofs.Ytppfejkkfgjikaa.LVarintJoins
open Go.RowKit

theorem natOf {z : Int} (h : (Lit.int .u64 z).wf = true) : ∃ u : Nat, z = u ∧ u < 2 ^ 64 := by
  have hb := bounds_u64 h
  obtain ⟨u, rfl⟩ := Int.eq_ofNat_of_zero_le hb.1
  exact ⟨u, rfl, by omega⟩

def Rel1 (w : World) (b len : Nat) (f : Nat → List UInt8) (pre : List UInt8) (s i : Value) (wr : World) : Prop :=
  ∃ k : Nat, k ≤ len ∧ i = .int .i64 k ∧ s = .string ⟨(pre ++ V.cat f k).toArray⟩ ∧ Wr wr b (pre ++ V.cat f k) ∧ Below w.heap.size w wr

def Rel2 (w : World) (b c len : Nat) (f : Nat → List UInt8) (all rest : List UInt8) (i : Value) (wr : World) : Prop :=
  ∃ k : Nat, k ≤ len ∧ i = .int .i64 k ∧ Wr wr b all ∧ Rd wr c (V.suf f k (len - k) ++ rest) 0 ∧ Below w.heap.size w wr

set_option maxRecDepth 100000 in
set_option maxHeartbeats 2000000 in
theorem walk (a : Option Addr) (la ca : Nat) (zs : List Int) (d : Option Addr) (ld cd : Nat) (ys : List Int) (w : World) (ha : IsRow .u64 w a la ca zs) (hd : IsRow .i64 w d ld cd ys) :
    Calls Try.prog 7 #[.slice a la ca, .slice d ld cd] w fun e w' => e = .returned (.bool true) ∧ Below w.heap.size w w' := by
  have RA := ha.at
  have RD := hd.at
  clear ha hd
  generalize (fun i => zs.getD i 0) = z at RA
  generalize (fun i => ys.getD i 0) = y at RD
  by_cases hbig : 100 < la ∨ 100 < ld
  · by_cases h5 : 100 < la
    · go_enter Try.func7, Try.ntmps7
      go_wp2_with fail
      refine (awake_at w).mono ?_
      rintro e w1 ⟨rfl, b1⟩
      go_wp2_with fail
      refine (awake_at w1).mono ?_
      rintro e w2 ⟨rfl, k2⟩
      have b2 := bMore b1 k2 (Nat.le_refl _)
      clear b1 k2
      go_wp2
      go_ret
      exact ⟨rfl, b2⟩
    · have h1 : 100 < ld := by omega
      go_enter Try.func7, Try.ntmps7
      go_wp2_with fail
      refine (awake_at w).mono ?_
      rintro e w1 ⟨rfl, b1⟩
      go_wp2_with fail
      refine (awake_at w1).mono ?_
      rintro e w2 ⟨rfl, k2⟩
      have b2 := bMore b1 k2 (Nat.le_refl _)
      clear b1 k2
      go_wp2
      go_ret
      exact ⟨rfl, b2⟩
  · have h5 : la ≤ 100 := by omega
    have h1 : ld ≤ 100 := by omega
    clear hbig
    obtain ⟨f, hf⟩ : ∃ f : Nat → List UInt8, f = fun i => V.enc (z i).toNat := ⟨_, rfl⟩
    obtain ⟨g, hg⟩ : ∃ g : Nat → List UInt8, g = fun i => V.enc (V.zig (y i)) := ⟨_, rfl⟩
    have Hf : Hid (∀ i, f i = V.enc (z i).toNat) := fun i => by rw [hf]
    have Hg : Hid (∀ i, g i = V.enc (V.zig (y i))) := fun i => by rw [hg]
    have HFL : Hid (∀ k, k ≤ la → (V.cat f k).length ≤ 1000) := fun k hk => by
      have h2 := V.cat_len f 10 k (fun i hi => by
        obtain ⟨u, hu, hul⟩ := natOf (RA.ok i (by omega))
        rw [hf]; dsimp only; rw [hu, Int.toNat_natCast]; exact V.enc_len10 u hul)
      omega
    have HGL : Hid (∀ k, k ≤ ld → (V.cat g k).length ≤ 1000) := fun k hk => by
      have h2 := V.cat_len g 10 k (fun i hi => by
        rw [hg]; exact V.enc_len10 _ (zig_lt _ (RD.ok i (by omega))))
      omega
    clear hf hg
    go_enter Try.func7, Try.ntmps7
    go_wp2_with fail
    refine (awake_at w).mono ?_
    rintro e w1 ⟨rfl, b1⟩
    have q1 := NewWr.wr w1
    have b2 := bMore b1 (NewWr.below w1) (Nat.le_refl _)
    have hb : w.heap.size ≤ w1.heap.size := b1.size
    have Q1 := Lib.hid q1
    clear q1 b1
    go_wp2
    go_loopw [6, 31] (fun s i wr => Rel1 w w1.heap.size la f [] s i wr) (fun _ i _ => la - (intOf i).toNat)
    case atStart => exact ⟨0, Nat.zero_le _, rfl, rfl, Q1.out, b2⟩
    case round =>
      clear Q1 b2
      generalize w1.heap.size = b at *
      obtain ⟨k, hk, rfl, rfl, hw, hbel⟩ := hrel
      have hlk := HFL.out k hk
      rw [List.nil_append] at hw
      simp only [List.nil_append]
      by_cases hlt : k < la
      · obtain ⟨r, off, har, hr, hc⟩ := (RA.below hbel).cells k hlt
        obtain ⟨u, hu, hul⟩ := natOf (RA.ok k hlt)
        have HS : Hid (V.cat f k ++ V.enc u = V.cat f (k + 1)) := by show V.cat f k ++ V.enc u = V.cat f k ++ f k; rw [Hf.out k, hu, Int.toNat_natCast]
        rw [hu] at hc
        have Hul := Lib.hid hul
        have hlu := V.enc_len10 u hul
        clear hu hul
        subst har
        go_wp2_with fail
        refine (wuint_at b u _ wr Hul.out hw (by omega)).mono ?_
        rintro e w4 ⟨rfl, q4, o4⟩
        have l4 := bOnly hbel o4 hb (Nat.le_refl _)
        clear hw hbel o4 hc
        go_wp2_with fail
        refine (number_at u w4 Hul.out).mono ?_
        rintro e w5 ⟨rfl, k5⟩
        have q5 := q4.below k5
        have l5 := bMore l4 k5 (Nat.le_refl _)
        clear q4 k5 l4
        rw [HS.out] at q5
        go_wp2
        go_roundw
        case rel => exact ⟨k + 1, by omega, by go_num, by rw [app_list, HS.out]; rfl, q5, l5⟩
        case measure => simp [intOf]; omega
      · obtain rfl : k = la := by omega
        clear hk hlt
        generalize hF : V.cat f k = F at *
        have HF := Lib.hid hF
        clear hF
        go_wp2
        go_loopw [6, 44] (fun s i wr => Rel1 w b ld g F s i wr) (fun _ i _ => ld - (intOf i).toNat)
        case atStart => exact ⟨0, Nat.zero_le _, rfl, by simp [V.cat], by rw [show V.cat g 0 = [] from rfl, List.append_nil]; exact hw, hbel⟩
        case round =>
          clear hw hbel
          obtain ⟨j, hj, rfl, rfl, hw, hbel⟩ := hrel
          have hlj := HGL.out j hj
          by_cases hlt : j < ld
          · obtain ⟨r, off, har, hr, hc⟩ := (RD.below hbel).cells j hlt
            have Hok := Lib.hid (RD.ok j hlt)
            have HS : Hid (F ++ V.cat g j ++ V.enc (V.zig (y j)) = F ++ V.cat g (j + 1)) := by show F ++ V.cat g j ++ V.enc (V.zig (y j)) = F ++ (V.cat g j ++ g j); rw [Hg.out j, List.append_assoc]
            have hlu := V.enc_len10 _ (zig_lt _ Hok.out)
            generalize y j = yj at *
            subst har
            go_wp2_with fail
            refine (wint_at b yj _ wr Hok.out hw (by rw [List.length_append]; omega)).mono ?_
            rintro e w4 ⟨rfl, q4, o4⟩
            have l4 := bOnly hbel o4 hb (Nat.le_refl _)
            clear hw hbel o4 hc
            go_wp2_with fail
            refine (qint_bytes yj w4 Hok.out).mono ?_
            rintro e w5 ⟨rfl, k5⟩
            have q5 := q4.below k5
            have l5 := bMore l4 k5 (Nat.le_refl _)
            clear q4 k5 l4
            rw [HS.out] at q5
            go_wp2
            go_roundw
            case rel => exact ⟨j + 1, by omega, by go_num, by rw [app_list, HS.out], q5, l5⟩
            case measure => simp [intOf]; omega
          · obtain rfl : j = ld := by omega
            clear hj hlt
            generalize hG : V.cat g j = G at *
            have HG := Lib.hid hG
            clear hG
            have hall : (F ++ G).length ≤ 2000 := by rw [List.length_append]; omega
            go_wp2_with fail
            refine (wstring_at b (F ++ G) _ hw (by omega)).mono ?_
            rintro e w4 ⟨rfl, rfl⟩
            go_wp2_with fail
            refine (newreader (F ++ G) _ (by unfold maxLen; omega)).mono ?_
            rintro e w5 ⟨c, rfl, hcc, q5, k5⟩
            have hw5 := hw.below k5
            have l5 := bMore hbel k5 (Nat.le_refl _)
            have hc2 : w.heap.size ≤ c := by have := hbel.size; omega
            have hbc : b ≠ c := by have := hw.lt; omega
            have Q5 : Hid (Rd w5 c (V.suf f 0 (k - 0) ++ G) 0) := by rw [Nat.sub_zero, V.suf_zero, HF.out]; exact q5
            clear hcc k5 hw hbel q5
            go_wp2
            go_loopw [59] (fun i wr => Rel2 w b c k f (F ++ G) G i wr) (fun i _ => k - (intOf i).toNat)
            case atStart => exact ⟨0, Nat.zero_le _, rfl, hw5, Q5.out, l5⟩
            case round =>
              clear hw5 Q5 l5
              obtain ⟨n, hn, rfl, hw, hr, hbel⟩ := hrel
              by_cases hlt : n < k
              · obtain ⟨r, off, har, hrr, hc⟩ := (RA.below hbel).cells n hlt
                obtain ⟨u, hu, hul⟩ := natOf (RA.ok n hlt)
                have HU : Hid (V.uintF (V.suf f n (k - n) ++ G) 0 = (u, V.suf f (n + 1) (k - (n + 1)) ++ G, 0)) := by
                  show V.uintF (V.suf f n (k - n) ++ G) 0 = _
                  rw [V.suf_step f n k hlt, Hf.out n, hu, Int.toNat_natCast, List.append_assoc]
                  exact V.uintF_enc u _ hul
                rw [hu] at hc
                clear hu hul
                have huu : ((u : Int) != (u : Int)) = false := by simp
                subst har
                go_wp2_with fail
                refine (uint_at c _ 0 wr hr).mono ?_
                rw [HU.out]
                rintro e w6 ⟨rfl, r6, o6⟩
                have hw6 := hw.other o6 hbc hw.lt
                have l6 := bOnly hbel o6 hc2 (Nat.le_refl _)
                clear hw hr hbel o6 hc
                go_wp2
                go_roundw
                case rel => exact ⟨n + 1, by omega, by go_num, hw6, r6, l6⟩
                case measure => simp [intOf]; omega
              · have hr2 : Rd wr c (V.suf g 0 (j - 0) ++ []) 0 := by
                  rw [Nat.sub_zero, V.suf_zero, HG.out, List.append_nil]
                  have e : k - n = 0 := by omega
                  rw [e] at hr
                  exact hr
                have R2 := Lib.hid hr2
                clear hr hr2
                go_wp2
                go_loopw [70] (fun i wr => Rel2 w b c j g (F ++ G) [] i wr) (fun i _ => j - (intOf i).toNat)
                case atStart => exact ⟨0, Nat.zero_le _, rfl, hw, R2.out, hbel⟩
                case round =>
                  clear hw R2 hbel
                  obtain ⟨m, hm, rfl, hw, hr, hbel⟩ := hrel
                  by_cases hlt : m < j
                  · obtain ⟨r, off, har, hrr, hc⟩ := (RD.below hbel).cells m hlt
                    have Hok := Lib.hid (RD.ok m hlt)
                    have HU : Hid (V.intF (V.suf g m (j - m) ++ []) 0 = (y m, V.suf g (m + 1) (j - (m + 1)) ++ [], 0)) := by
                      show V.intF (V.suf g m (j - m) ++ []) 0 = _
                      unfold V.intF
                      rw [V.suf_step g m j hlt, Hg.out m, List.append_assoc, V.uintF_enc _ _ (zig_lt _ Hok.out)]
                      simp only [V.intOfN_zig]
                    generalize y m = ym at *
                    have huu : (ym != ym) = false := by simp
                    subst har
                    go_wp2_with fail
                    refine (int_at c _ 0 wr hr).mono ?_
                    rw [HU.out]
                    rintro e w6 ⟨rfl, r6, o6⟩
                    have hw6 := hw.other o6 hbc hw.lt
                    have l6 := bOnly hbel o6 hc2 (Nat.le_refl _)
                    clear hw hr hbel o6 hc
                    go_wp2
                    go_roundw
                    case rel => exact ⟨m + 1, by omega, by go_num, hw6, r6, l6⟩
                    case measure => simp [intOf]; omega
                  · have hr2 : Rd wr c [] 0 := by
                      have e : j - m = 0 := by omega
                      rw [e] at hr
                      exact hr
                    clear hr
                    go_wp2_with fail
                    refine (wstring_at b (F ++ G) _ hw (by omega)).mono ?_
                    rintro e w7 ⟨rfl, rfl⟩
                    go_wp2_with fail
                    refine (done_at c [] 0 _ hr2).mono ?_
                    rintro e w7 ⟨rfl, rfl⟩
                    go_wp2_with fail
                    refine (left_at c _ _ hr2.rest).mono ?_
                    rintro e w7 ⟨rfl, rfl⟩
                    go_wp2
                    go_ret
                    exact ⟨rfl, hbel⟩

open Go.ChangeShapes Go.WideShapes Go.ChangeAt
theorem own : ownKnob Try.prog.godebug = none := by kernel_rfl
theorem laidOut : laidOutB Try.prog = true := by kernel_rfl

set_option maxRecDepth 100000 in
theorem lifted (os : Os) (started : os.Started) (H : Type) (enc : TypeId × Value → H) :
    ReturnsInHanded {} Try.checked os 7 .any (Rows.varintJoinsSpec.pre6 enc Try.prog Try.f7 Rows.varintJoinsRow.domain false) (Rows.varintJoinsSpec.post enc Try.prog Try.f7 false true false false) := by
  refine returnsInHanded_of_change (C := Try.checked) own started (by kernel_rfl) Try.func7
    (ChangeSpec.witness6 (enc := enc) (C := Try.checked) false ⟨#[], #[.slice none 0 0, .slice none 0 0], []⟩ 8 (by kernel_rfl) (by kernel_rfl) (by kernel_rfl) (by kernel_rfl)) ?_
  intro W base args ds gs before hval0 hW hcnd _
  have hval : ∀ (j : Nat) t v, Try.f7.params[j]? = some t → args[j]? = some v → Value.okWide Try.prog W .any base t v := hval0
  have hW' := hW
  obtain ⟨p, q, hA0, hV, rfl, hfz, hnd⟩ := hW
  have hA : DataW.TrodAll enc Try.prog W 0 (fun _ => true) true Try.f7.params.toList args.toList ds p := hA0
  rw [Try.params7] at hA hval
  obtain ⟨v0, vs0, d0, ds0, p0, q0, hargs, rfl, rfl, h0, r0⟩ := trodAll_cons hA
  obtain ⟨v1, vs1, d1, ds1, p1, q1, rfl, rfl, rfl, h1, r1⟩ := trodAll_cons r0
  obtain ⟨rfl, rfl, rfl⟩ := trodAll_nil r1
  obtain rfl : args = #[v0, v1] := by cases args; simp_all
  obtain ⟨rfl, rfl⟩ := trodVars_none hV
  have k0 := h0
  have lt0 : ∀ x ∈ p0, x.block < W.heap.size := by obtain ⟨m, hm⟩ := k0; exact DataW.trod_lt m _ _ _ hm
  have k1 := h1
  have lt1 : ∀ x ∈ p1, x.block < W.heap.size := by obtain ⟨m, hm⟩ := k1; exact DataW.trod_lt m _ _ _ hm
  obtain ⟨a0, len0, cap0, rfl⟩ := okWide_slice Try.underlying54 (hval 0 54 v0 rfl rfl)
  obtain ⟨z0, w0⟩ : ∃ zs, IsRow .u64 W a0 len0 cap0 zs := by
    obtain ⟨fuel, hf⟩ := h0
    rcases open_ints Try.underlying54 Try.underlying27 (by kernel_rfl) hf with ⟨hcs, _⟩ | ⟨x, l, c, zs, hcs, _, hl, hm, hz, _, hcell, hwz⟩
    · simp [Value.cells] at hcs
      obtain ⟨rfl, rfl, rfl⟩ := hcs
      exact ⟨[], .inl ⟨rfl, rfl, rfl, rfl⟩⟩
    · simp [Value.cells] at hcs
      obtain ⟨rfl, rfl, rfl⟩ := hcs
      exact ⟨zs, .inr ⟨_, rfl, hl, hm, by simpa using hz, hcell, hwz⟩⟩
  obtain ⟨a1, len1, cap1, rfl⟩ := okWide_slice Try.underlying55 (hval 1 55 v1 rfl rfl)
  obtain ⟨z1, w1⟩ : ∃ zs, IsRow .i64 W a1 len1 cap1 zs := by
    obtain ⟨fuel, hf⟩ := h1
    rcases open_ints Try.underlying55 Try.underlying3 (by kernel_rfl) hf with ⟨hcs, _⟩ | ⟨x, l, c, zs, hcs, _, hl, hm, hz, _, hcell, hwz⟩
    · simp [Value.cells] at hcs
      obtain ⟨rfl, rfl, rfl⟩ := hcs
      exact ⟨[], .inl ⟨rfl, rfl, rfl, rfl⟩⟩
    · simp [Value.cells] at hcs
      obtain ⟨rfl, rfl, rfl⟩ := hcs
      exact ⟨zs, .inr ⟨_, rfl, hl, hm, by simpa using hz, hcell, hwz⟩⟩
  clear hA0 hval0
  refine (walk a0 len0 cap0 z0 a1 len1 cap1 z1 W w0 w1).mono fun e W' ⟨he, bel⟩ => ?_
  subst he
  exact ⟨_, rfl, _, _, _, [], _, [], hW', trodAll_mk1 (shut_bool Try.underlying4 _), (trodAll_cons_mk (Below.trod laidOut (by kernel_rfl) (of_decide_eq_true (by kernel_rfl)) k0 bel lt0) (trodAll_cons_mk (Below.trod laidOut (by kernel_rfl) (of_decide_eq_true (by kernel_rfl)) k1 bel lt1) trodAll_mk0)), rfl, bel.frame _, fun h => by cases h⟩

theorem over : Rows.varintJoinsRow.holds Try.pinned (OpenSpec.ofChange Rows.varintJoinsSpec) :=
  OpenClaim.holds_of_wide 7 Try.f7 rfl rfl rfl rfl rfl rfl rfl ⟨rfl, rfl, rfl, rfl, rfl⟩ rfl rfl rfl rfl rfl (by kernel_rfl) Try.func7 (by kernel_rfl)
    (of_decide_eq_true (by kernel_rfl)) (by unfold Func.isWrapper; first | (rw [if_pos (by decide +kernel)]; kernel_rfl) | (rw [if_neg (by decide +kernel)]; exact ⟨rfl, rfl⟩))
    (fun os started H enc _ => lifted os started H enc)
end Go.Proofs.Ytppfejkkfgjikaa.LVarintJoins

namespace Go.Proofs.Ytppfejkkfgjikaa
theorem varintJoins_holds : Rows.VarintJoinsSaid := LVarintJoins.over
#print axioms varintJoins_holds
end Go.Proofs.Ytppfejkkfgjikaa

