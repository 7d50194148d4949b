/- Proved: DumpOne: unlike tables have unlike dumps; with one route more a dump is longer. Condition: none of our own. -/
import Derived.Test.YtpimecnpdpcceaaGreatLw
import Derived.SizedLaws
namespace Go.Proofs.YtpimecnpdpcceaaGreat.LDumpOne
open Go.RowKit Go.ChangeShapes Go.WideShapes Go.ChangeAt Go.Joins Go.Deep

set_option maxRecDepth 100000 in
theorem open_routeS {H : Type} {enc : TypeId × Value → H} {W : World} {sp : Nat → Bool} {held : Bool} {b0 : Nat} {v : Value} {d : DataW H} {q : List MemPlace} (hv : Value.okWide Tryz.prog W .any b0 44 v) (h : DataW.Trod enc Tryz.prog W 0 sp held 44 v d q) : ∃ r : Rt, v = .agg (rc r) ∧ Sq r := by
  obtain ⟨cs, rfl, hsz⟩ := okWide_struct Tryz.underlying44 hv
  obtain ⟨fuel, hf⟩ := h
  obtain ⟨r, hr⟩ := cells_routeS hf (by rw [cells34] at hsz; simpa [Value.cells] using hsz)
  refine ⟨r.1, ?_, r.2⟩
  congr 1
  apply Array.ext'
  simpa [Value.cells, rc] using hr
theorem dump_eq {l m : List Rt} (hl : Sorted l) (hm : Sorted m) (rl' : ∀ r ∈ l, Rok r) (rm : ∀ r ∈ m, Rok r) (fl : l.length ≤ 300) (fm : m.length ≤ 300) : (Dm.dumpL codP (l.map rwOf) = Dm.dumpL codP (m.map rwOf)) ↔ l = m := by
  constructor
  · intro h
    have := Dm.d_inj (okD_tab hl rl') (by rw [List.length_map]; exact fl) (okD_tab hm rm) (by rw [List.length_map]; exact fm) h
    rw [← map_rt rl', this, map_rt rm]
  · rintro rfl
    rfl
theorem sz7 (L : List UInt8) : (⟨L.toArray⟩ : ByteArray).size = L.length := by simp [ByteArray.size]
theorem put_cases {l : List Rt} (hl : ∀ r ∈ l, Rok r) (r : Rt) (hq : Sq r) : (putS l r).2 ≠ 0 ∨ ((putS l r).2 = 0 ∧ (hasP l r.to = true ∨ ((∀ x ∈ (putS l r).1, Rok x) ∧ (Dm.dumpL codP (l.map rwOf)).length < (Dm.dumpL codP ((putS l r).1.map rwOf)).length))) := by
  unfold putS
  by_cases h1 : rightR r
  · rw [if_pos h1]
    by_cases h2 : hasP l r.to = true
    · rw [if_pos h2]
      exact .inr ⟨rfl, .inl h2⟩
    · rw [if_neg h2]
      by_cases h3 : 300 ≤ l.length
      · rw [if_pos h3]
        exact .inl (show (7 : Int) ≠ 0 by decide)
      · rw [if_neg h3]
        refine .inr ⟨rfl, .inr ?_⟩
        have hp : putL l r = l.take (rank l r.to) ++ r :: l.drop (rank l r.to) := by
          unfold putL
          rw [if_neg h2]
        simp only
        rw [hp]
        refine ⟨fun x hx => ?_, ?_⟩
        · rw [List.mem_append, List.mem_cons] at hx
          rcases hx with hx | rfl | hx
          · exact hl x (List.mem_of_mem_take hx)
          · exact ⟨h1, hq⟩
          · exact hl x (List.mem_of_mem_drop hx)
        · have := Dm.d_more_len (C := codP) (rwOf r) ((l.take (rank l r.to)).map rwOf) ((l.drop (rank l r.to)).map rwOf)
          rw [← List.map_append, List.take_append_drop] at this
          rw [List.map_append, List.map_cons]
          exact this
  · rw [if_neg h1]
    exact .inl (show (1 : Int) ≠ 0 by decide)

set_option maxRecDepth 100000 in
set_option maxHeartbeats 4000000 in
theorem walk (a : Option Addr) (cap : Nat) (l : List Rt) (a' : Option Addr) (cap' : Nat) (m : List Rt) (r : Rt) (w : World) (hA : ArgN rl w a cap l) (hq : ∀ r ∈ l, Sq r) (hA' : ArgN rl w a' cap' m) (hq' : ∀ r ∈ m, Sq r) (hr : Sq r) :
    Calls Tryz.prog 5 #[.slice a l.length cap, .slice a' m.length cap', .agg (rc r)] w fun e w' => e = .returned (.bool true) ∧ Keep w w' := by
  have HAw := Lib.hid awake
  have hsm := hA.small
  have hsm' := hA'.small
  have HK0 := Lib.hid (show Keep w (w.alloc (.cells (rc r) 44)) from (Keep.refl _).alloc _)
  have HA := Lib.hid (hA.keep HK0.out)
  have HA' := Lib.hid (hA'.keep HK0.out)
  have HQ := Lib.hid hq
  have HQ' := Lib.hid hq'
  have HSr := Lib.hid hr
  have HR0 := Lib.hid (RAt.new w r)
  obtain ⟨N, hN⟩ : ∃ N, l.length = N := ⟨_, rfl⟩
  have HN := Lib.hid hN
  obtain ⟨M, hM⟩ : ∃ M, m.length = M := ⟨_, rfl⟩
  have HM := Lib.hid hM
  rw [hN] at hsm ⊢
  rw [hM] at hsm' ⊢
  clear hA hq hA' hq' hr hN hM
  unfold maxLen at hsm hsm'
  by_cases hbig : N > 200 ∨ M > 200
  · go_enter Tryz.func5, Tryz.ntmps5
    go_wp2_with fail
    refine (HAw.out _).mono ?_
    rintro e w1 ⟨rfl, k1⟩
    have HK1 := Lib.hid (HK0.out.trans k1)
    clear k1
    by_cases h1 : N > 200
    · have h1i : (N : Int) > 200 := by omega
      go_wp2_with fail
      refine (HAw.out _).mono ?_
      rintro e w2 ⟨rfl, k2⟩
      go_wp2
      go_ret
      exact ⟨rfl, HK1.out.trans k2⟩
    · have h1i : ¬ (N : Int) > 200 := by omega
      have h2i : (M : Int) > 200 := by omega
      go_wp2_with fail
      refine (HAw.out _).mono ?_
      rintro e w2 ⟨rfl, k2⟩
      go_wp2
      go_ret
      exact ⟨rfl, HK1.out.trans k2⟩
  · have h1i : ¬ (N : Int) > 200 := by omega
    have h2i : ¬ (M : Int) > 200 := by omega
    have HSL := Lib.hid slice_no
    obtain ⟨hz, hi⟩ := zero_of_info info34b
    obtain ⟨n, hn⟩ : ∃ n, n = 20 := ⟨20, rfl⟩
    have hsz : ∀ w, (Go.sizeOf 44).run Tryz.prog w = .ok n w := fun w => by rw [hn]; exact Tryz.sizeOf44 w
    have hn0 : ¬ n = 0 := by omega
    have hrn : ∀ r : Rt, (rc r).size = n := fun r => by rw [hn]; exact rc_size r
    obtain ⟨n2, hn2⟩ : ∃ n, n = 18 := ⟨18, rfl⟩
    have hsz2 : ∀ w, (Go.sizeOf 41).run Tryz.prog w = .ok n2 w := fun w => by rw [hn2]; exact Tryz.sizeOf41 w
    have hn20 : ¬ n2 = 0 := by omega
    have HNn := Lib.hid hn
    have HN2 := Lib.hid hn2
    clear hn hn2
    go_enter Tryz.func5, Tryz.ntmps5
    go_wp2_with fail
    refine (HAw.out _).mono ?_
    rintro e w1 ⟨rfl, k1⟩
    have HK1 := Lib.hid (HK0.out.trans k1)
    have HR1 := Lib.hid (HR0.out.keep k1)
    have HB1 := Lib.hid (HA'.out.keep k1)
    have HA1 := Lib.hid ((HA.out.keep k1).keep ((Keep.refl w1).alloc (.cells #[] 44)))
    have HO1 := Lib.hid (Own.made (t := 44) (k := 20) (enc := rl) w1.heap.size w1 (Nat.le_refl _))
    clear k1
    go_wp2_with (first | (refine at_slice [] rfl _ (HSL.out _) ?_) | (at_builtin; refine wp_appN elR rfl _ _ rfl w1.heap.size _ a N cap [] l rfl HN.out rfl HO1.out HA1.out ?q1 ?q2 ?q3 ?_))
    case q1 => rw [HN.out]; simp; omega
    case q2 => rw [HN.out]; simp; omega
    case q3 => simp
    intro v2 w2 o2 g2
    have HK2 := Lib.hid (HO1.out.grown ((Keep.refl w1).alloc _) (Nat.le_refl _) g2)
    have HNw := Lib.hid (new v2 l w2 (o2.row elR).cells (by rw [HN.out]; omega))
    clear o2 g2
    go_wp2_with fail
    refine HNw.out.mono ?_
    rintro e w3 ⟨p, rfl, k3, hcase⟩
    have HK3 := Lib.hid (HK2.out.trans k3)
    have HKW3 := Lib.hid (HK1.out.trans HK3.out)
    have HR3 := Lib.hid (HR1.out.keep HK3.out)
    have HB3 := Lib.hid ((HB1.out.keep HK3.out).keep ((Keep.refl w3).alloc (.cells #[] 44)))
    have HO3 := Lib.hid (Own.made (t := 44) (k := 20) (enc := rl) w3.heap.size w3 (Nat.le_refl _))
    clear k3 HNw
    generalize hE1 : newE l = E1 at hcase ⊢
    have HE1 := Lib.hid hE1
    have HCs := Lib.hid hcase
    clear hcase hE1
    go_wp2_with (first | (refine at_slice [] rfl _ (HSL.out _) ?_) | (at_builtin; refine wp_appN elR rfl _ _ rfl w3.heap.size _ a' M cap' [] m rfl HM.out rfl HO3.out HB3.out ?r1 ?r2 ?r3 ?_))
    case r1 => rw [HM.out]; simp; omega
    case r2 => rw [HM.out]; simp; omega
    case r3 => simp
    intro v4 w4 o4 g4
    have HK4 := Lib.hid (HO3.out.grown ((Keep.refl w3).alloc _) (Nat.le_refl _) g4)
    have HNw := Lib.hid (new v4 m w4 (o4.row elR).cells (by rw [HM.out]; omega))
    clear o4 g4
    go_wp2_with fail
    refine HNw.out.mono ?_
    rintro e w5 ⟨p', rfl, k5, hcase'⟩
    have HK5 := Lib.hid (HK4.out.trans k5)
    have HKW5 := Lib.hid (HKW3.out.trans HK5.out)
    have HR5 := Lib.hid (HR3.out.keep HK5.out)
    clear k5 HNw
    generalize hE2 : newE m = E2 at hcase' ⊢
    have HE2 := Lib.hid hE2
    have HCs' := Lib.hid hcase'
    clear hcase' hE2
    by_cases hE1 : E1 = 0
    · have hE1b : (E1 != 0) = false := by simp [hE1]
      by_cases hE2 : E2 = 0
      · have hE2b : (E2 != 0) = false := by simp [hE2]
        rcases HCs.out with ⟨h0, _⟩ | ⟨_, b, l', rfl, _, hperm, htb⟩
        · exact absurd hE1 h0
        rcases HCs'.out with ⟨h0, _⟩ | ⟨_, b', m', rfl, _, hperm', htb'⟩
        · exact absurd hE2 h0
        have HRl := Lib.hid (rok_of (HE1.out.trans hE1) hperm HQ.out)
        have HRm := Lib.hid (rok_of (HE2.out.trans hE2) hperm' HQ'.out)
        have HX5 := Lib.hid (htb.keep HK5.out)
        have HY5 := Lib.hid htb'
        have HDe := Lib.hid (dump_eq htb.sorted htb'.sorted HRl.out HRm.out htb.few htb'.few)
        have HPc := Lib.hid (put_cases HRl.out r HSr.out)
        have HPr := Lib.hid (fun (b : Nat) (l : List Rt) (hl : ∀ r ∈ l, Rok r) (w : World) (h : Tb w b l) => dprint (.pointer (some ⟨b, 0, none⟩)) l w (.inr ⟨b, rfl, h⟩) hl)
        have hslx := dump_short l' htb.few HRl.out
        have hsly := dump_short m' htb'.few HRm.out
        clear htb htb' hperm hperm' HCs HCs' HA HA' HA1 HB1 HB3 HO1 HO3
        have hbw : b < w5.heap.size := by obtain ⟨⟨v, h, _⟩, _, _⟩ := HX5.out; exact block_lt h
        have hbw' : b' < w5.heap.size := by obtain ⟨⟨v, h, _⟩, _, _⟩ := HY5.out; exact block_lt h
        go_wp2_with fail
        refine (copy b l' w5 HX5.out).mono ?_
        rintro e w6 ⟨c, rfl, hc, htc, k6⟩
        have HC6 := Lib.hid htc
        have HX6 := Lib.hid (HX5.out.keep k6)
        have HY6 := Lib.hid (HY5.out.keep k6)
        have HR6 := Lib.hid (HR5.out.keep k6)
        have HKW6 := Lib.hid (HKW5.out.trans k6)
        have d6 := HR6.out.to HN2.out
        clear htc k6
        go_wp2_with fail
        refine (get (.pointer (some ⟨c, 0, none⟩)) l' r.to r.ok w6 (.inr ⟨c, rfl, HC6.out⟩)).mono ?_
        rintro e w7 ⟨rfl, k7⟩
        generalize getS l' r.to = G at *
        have HAg := Lib.hid (RAt.new w7 zeroR)
        have hst := HAg.out.store G
        have HKg := Lib.hid (((Keep.refl w7).alloc (.cells (rc zeroR) 44)).setRow w7.heap.size (rc G) (Nat.le_refl _))
        have HC7 := Lib.hid ((HC6.out.keep k7).keep HKg.out)
        have HX7 := Lib.hid ((HX6.out.keep k7).keep HKg.out)
        have HY7 := Lib.hid ((HY6.out.keep k7).keep HKg.out)
        have HR7 := Lib.hid ((HR6.out.keep k7).keep HKg.out)
        have HKW7 := Lib.hid ((HKW6.out.trans k7).trans HKg.out)
        have d7 := HR7.out.whole HNn.out
        clear k7 d6 HAg
        go_wp2_with fail
        refine (put c l' r _ HC7.out).mono ?_
        rintro e w8 ⟨rfl, htz, o8⟩
        have HZ8 := Lib.hid htz
        have HX8 := Lib.hid (HX7.out.only HC7.out o8 (by omega))
        have HY8 := Lib.hid (HY7.out.only HC7.out o8 (by omega))
        have HKW8 := Lib.hid (Only.made HKW7.out o8 (by have := HKW5.out.size; omega))
        clear htz o8 hst d7
        generalize putS l' r = pz at *
        obtain ⟨lz, ez⟩ := pz
        simp only at HPc ⊢
        have HSm := Lib.hid (fun (W : World) (hx : Tb W b l') (hy : Tb W b' m') => same (.pointer (some ⟨b, 0, none⟩)) (.pointer (some ⟨b', 0, none⟩)) l' m' W (.inr ⟨b, rfl, hx⟩) (.inr ⟨b', rfl, hy⟩))
        have hs1 := sz7 (Dm.dumpL codP (l'.map rwOf))
        by_cases hez : ez = 0
        · have hezb : (ez != 0) = false := by simp [hez]
          cases hhas : hasP l' r.to
          · obtain ⟨hrz, hlen⟩ : (∀ x ∈ lz, Rok x) ∧ (Dm.dumpL codP (l'.map rwOf)).length < (Dm.dumpL codP (lz.map rwOf)).length := by
              rcases HPc.out with h | ⟨_, h | h⟩
              · exact absurd hez h
              · rw [hhas] at h
                cases h
              · exact h
            have hs3 := sz7 (Dm.dumpL codP (lz.map rwOf))
            have hslz := dump_short lz HZ8.out.few hrz
            have hlen2 : ((Dm.dumpL codP (lz.map rwOf)).length : Int) > (Dm.dumpL codP (l'.map rwOf)).length := by omega
            go_wp2_with fail
            refine (HPr.out c lz hrz w8 HZ8.out).mono ?_
            rintro e w9 ⟨rfl, k9⟩
            have HX9 := Lib.hid (HX8.out.keep k9)
            have HY9 := Lib.hid (HY8.out.keep k9)
            have HKW9 := Lib.hid (HKW8.out.trans k9)
            clear k9
            go_wp2_with fail
            refine (HPr.out b l' HRl.out w9 HX9.out).mono ?_
            rintro e w10 ⟨rfl, k10⟩
            have HX10 := Lib.hid (HX9.out.keep k10)
            have HY10 := Lib.hid (HY9.out.keep k10)
            have HKW10 := Lib.hid (HKW9.out.trans k10)
            clear k10
            go_wp2_with fail
            refine (HPr.out b l' HRl.out w10 HX10.out).mono ?_
            rintro e wa ⟨rfl, ka⟩
            have HXa := Lib.hid (HX10.out.keep ka)
            have HYa := Lib.hid (HY10.out.keep ka)
            have HKa := Lib.hid (HKW10.out.trans ka)
            clear ka
            go_wp2_with fail
            refine (HPr.out b' m' HRm.out wa HYa.out).mono ?_
            rintro e wb ⟨rfl, kb⟩
            have HXb := Lib.hid (HXa.out.keep kb)
            have HYb := Lib.hid (HYa.out.keep kb)
            have HKb := Lib.hid (HKa.out.trans kb)
            clear kb
            by_cases hlm : l' = m'
            · have h12 : Dm.dumpL codP (m'.map rwOf) = Dm.dumpL codP (l'.map rwOf) := by rw [hlm]
              rw [h12]
              have hDD : ((⟨(Dm.dumpL codP (l'.map rwOf)).toArray⟩ : ByteArray) == ⟨(Dm.dumpL codP (l'.map rwOf)).toArray⟩) = true := (MapKept.bytes_beq _ _).2 rfl
              have HLM := Lib.hid hlm
              generalize Dm.dumpL codP (l'.map rwOf) = D1 at *
              clear h12 hlm
              go_wp2_with fail
              refine (HSm.out wb HXb.out HYb.out).mono ?_
              rintro e wc ⟨rfl, kc⟩
              rw [decide_eq_true HLM.out]
              have HKc := Lib.hid (HKb.out.trans kc)
              clear kc
              go_wp2
              go_ret
              exact ⟨rfl, HKc.out⟩
            · have hDD : ((⟨(Dm.dumpL codP (l'.map rwOf)).toArray⟩ : ByteArray) == ⟨(Dm.dumpL codP (m'.map rwOf)).toArray⟩) = false := by
                rw [Bool.eq_false_iff]
                intro h
                rw [MapKept.bytes_beq] at h
                simp at h
                exact hlm (HDe.out.1 h)
              have hD12 : ¬ Dm.dumpL codP (l'.map rwOf) = Dm.dumpL codP (m'.map rwOf) := fun h => hlm (HDe.out.1 h)
              have HLM := Lib.hid hlm
              generalize Dm.dumpL codP (l'.map rwOf) = D1 at *
              generalize Dm.dumpL codP (m'.map rwOf) = D2 at *
              have hD12b : (D1 == D2) = false := by simpa using hD12
              clear hlm
              go_wp2_with fail
              refine (HSm.out wb HXb.out HYb.out).mono ?_
              rintro e wc ⟨rfl, kc⟩
              rw [decide_eq_false HLM.out]
              have HKc := Lib.hid (HKb.out.trans kc)
              clear kc
              go_wp2
              go_ret
              exact ⟨rfl, HKc.out⟩

          · go_wp2_with fail
            refine (HPr.out b l' HRl.out w8 HX8.out).mono ?_
            rintro e wa ⟨rfl, ka⟩
            have HXa := Lib.hid (HX8.out.keep ka)
            have HYa := Lib.hid (HY8.out.keep ka)
            have HKa := Lib.hid (HKW8.out.trans ka)
            clear ka
            go_wp2_with fail
            refine (HPr.out b' m' HRm.out wa HYa.out).mono ?_
            rintro e wb ⟨rfl, kb⟩
            have HXb := Lib.hid (HXa.out.keep kb)
            have HYb := Lib.hid (HYa.out.keep kb)
            have HKb := Lib.hid (HKa.out.trans kb)
            clear kb
            by_cases hlm : l' = m'
            · have h12 : Dm.dumpL codP (m'.map rwOf) = Dm.dumpL codP (l'.map rwOf) := by rw [hlm]
              rw [h12]
              have hDD : ((⟨(Dm.dumpL codP (l'.map rwOf)).toArray⟩ : ByteArray) == ⟨(Dm.dumpL codP (l'.map rwOf)).toArray⟩) = true := (MapKept.bytes_beq _ _).2 rfl
              have HLM := Lib.hid hlm
              generalize Dm.dumpL codP (l'.map rwOf) = D1 at *
              clear h12 hlm
              go_wp2_with fail
              refine (HSm.out wb HXb.out HYb.out).mono ?_
              rintro e wc ⟨rfl, kc⟩
              rw [decide_eq_true HLM.out]
              have HKc := Lib.hid (HKb.out.trans kc)
              clear kc
              go_wp2
              go_ret
              exact ⟨rfl, HKc.out⟩
            · have hDD : ((⟨(Dm.dumpL codP (l'.map rwOf)).toArray⟩ : ByteArray) == ⟨(Dm.dumpL codP (m'.map rwOf)).toArray⟩) = false := by
                rw [Bool.eq_false_iff]
                intro h
                rw [MapKept.bytes_beq] at h
                simp at h
                exact hlm (HDe.out.1 h)
              have hD12 : ¬ Dm.dumpL codP (l'.map rwOf) = Dm.dumpL codP (m'.map rwOf) := fun h => hlm (HDe.out.1 h)
              have HLM := Lib.hid hlm
              generalize Dm.dumpL codP (l'.map rwOf) = D1 at *
              generalize Dm.dumpL codP (m'.map rwOf) = D2 at *
              have hD12b : (D1 == D2) = false := by simpa using hD12
              clear hlm
              go_wp2_with fail
              refine (HSm.out wb HXb.out HYb.out).mono ?_
              rintro e wc ⟨rfl, kc⟩
              rw [decide_eq_false HLM.out]
              have HKc := Lib.hid (HKb.out.trans kc)
              clear kc
              go_wp2
              go_ret
              exact ⟨rfl, HKc.out⟩

        · have hezb : (ez != 0) = true := by simpa using hez
          go_wp2_with fail
          refine (HPr.out b l' HRl.out w8 HX8.out).mono ?_
          rintro e wa ⟨rfl, ka⟩
          have HXa := Lib.hid (HX8.out.keep ka)
          have HYa := Lib.hid (HY8.out.keep ka)
          have HKa := Lib.hid (HKW8.out.trans ka)
          clear ka
          go_wp2_with fail
          refine (HPr.out b' m' HRm.out wa HYa.out).mono ?_
          rintro e wb ⟨rfl, kb⟩
          have HXb := Lib.hid (HXa.out.keep kb)
          have HYb := Lib.hid (HYa.out.keep kb)
          have HKb := Lib.hid (HKa.out.trans kb)
          clear kb
          by_cases hlm : l' = m'
          · have h12 : Dm.dumpL codP (m'.map rwOf) = Dm.dumpL codP (l'.map rwOf) := by rw [hlm]
            rw [h12]
            have hDD : ((⟨(Dm.dumpL codP (l'.map rwOf)).toArray⟩ : ByteArray) == ⟨(Dm.dumpL codP (l'.map rwOf)).toArray⟩) = true := (MapKept.bytes_beq _ _).2 rfl
            have HLM := Lib.hid hlm
            generalize Dm.dumpL codP (l'.map rwOf) = D1 at *
            clear h12 hlm
            go_wp2_with fail
            refine (HSm.out wb HXb.out HYb.out).mono ?_
            rintro e wc ⟨rfl, kc⟩
            rw [decide_eq_true HLM.out]
            have HKc := Lib.hid (HKb.out.trans kc)
            clear kc
            go_wp2
            go_ret
            exact ⟨rfl, HKc.out⟩
          · have hDD : ((⟨(Dm.dumpL codP (l'.map rwOf)).toArray⟩ : ByteArray) == ⟨(Dm.dumpL codP (m'.map rwOf)).toArray⟩) = false := by
              rw [Bool.eq_false_iff]
              intro h
              rw [MapKept.bytes_beq] at h
              simp at h
              exact hlm (HDe.out.1 h)
            have hD12 : ¬ Dm.dumpL codP (l'.map rwOf) = Dm.dumpL codP (m'.map rwOf) := fun h => hlm (HDe.out.1 h)
            have HLM := Lib.hid hlm
            generalize Dm.dumpL codP (l'.map rwOf) = D1 at *
            generalize Dm.dumpL codP (m'.map rwOf) = D2 at *
            have hD12b : (D1 == D2) = false := by simpa using hD12
            clear hlm
            go_wp2_with fail
            refine (HSm.out wb HXb.out HYb.out).mono ?_
            rintro e wc ⟨rfl, kc⟩
            rw [decide_eq_false HLM.out]
            have HKc := Lib.hid (HKb.out.trans kc)
            clear kc
            go_wp2
            go_ret
            exact ⟨rfl, HKc.out⟩
      · have hE2b : (E2 != 0) = true := by simpa using hE2
        go_wp2
        go_ret
        exact ⟨rfl, HKW5.out⟩
    · have hE1b : (E1 != 0) = true := by simpa using hE1
      go_wp2
      go_ret
      exact ⟨rfl, HKW5.out⟩

open Go.ChangeShapes Go.WideShapes Go.ChangeAt
theorem own : ownKnob Tryz.prog.godebug = none := by kernel_rfl
theorem laidOut : laidOutB Tryz.prog = true := by kernel_rfl

set_option maxRecDepth 100000 in
theorem lifted (os : Os) (started : os.Started) (H : Type) (enc : TypeId × Value → H) :
    ReturnsInHanded {} Tryz.checked os 5 .any (Rows.dumpOneSpec.pre6 enc Tryz.prog Tryz.f5 Rows.dumpOneRow.domain false) (Rows.dumpOneSpec.post enc Tryz.prog Tryz.f5 false true false false) := by
  refine returnsInHanded_of_change (C := Tryz.checked) own started (by kernel_rfl) Tryz.func5
    (ChangeSpec.witness6 (enc := enc) (C := Tryz.checked) false ⟨#[], #[.slice none 0 0, .slice none 0 0, .agg (rc zeroR)], []⟩ 8 (by kernel_rfl) (by kernel_rfl) (by kernel_rfl) (by kernel_rfl)) ?_
  intro W base args ds gs before hval0 hW hcnd _
  have hval : ∀ (j : Nat) t v, Tryz.f5.params[j]? = some t → args[j]? = some v → Value.okWide Tryz.prog W .any base t v := hval0
  have hW' := hW
  obtain ⟨p, q, hA0, hV, rfl, hfz, hnd⟩ := hW
  have hA : DataW.TrodAll enc Tryz.prog W 0 (fun _ => true) true Tryz.f5.params.toList args.toList ds p := hA0

  rw [Tryz.params5] at hA hval
  obtain ⟨v0, vs0, d0, ds0, p0, q0, hargs, rfl, rfl, h0, r0⟩ := trodAll_cons hA
  obtain ⟨v1, vs1, d1, ds1, p1, q1, rfl, rfl, rfl, h1, r1⟩ := trodAll_cons r0
  obtain ⟨v2, vs2, d2, ds2, p2, q2, rfl, rfl, rfl, h2, r2⟩ := trodAll_cons r1
  obtain ⟨rfl, rfl, rfl⟩ := trodAll_nil r2
  obtain rfl : args = #[v0, v1, v2] := by cases args; simp_all
  obtain ⟨rfl, rfl⟩ := trodVars_none hV
  have k0 := h0
  have lt0 : ∀ x ∈ p0, x.block < W.heap.size := by obtain ⟨m, hm⟩ := k0; exact DataW.trod_lt m _ _ _ hm
  have k1 := h1
  have lt1 : ∀ x ∈ p1, x.block < W.heap.size := by obtain ⟨m, hm⟩ := k1; exact DataW.trod_lt m _ _ _ hm
  have k2 := h2
  have lt2 : ∀ x ∈ p2, x.block < W.heap.size := by obtain ⟨m, hm⟩ := k2; exact DataW.trod_lt m _ _ _ hm
  obtain ⟨a0, cap0, l0, rfl, f0, sq0⟩ := open_routesN (hval 0 27 v0 rfl rfl) h0
  obtain ⟨a1, cap1, l1, rfl, f1, sq1⟩ := open_routesN (hval 1 27 v1 rfl rfl) h1
  obtain ⟨rt2, rfl, s2⟩ := open_routeS (hval 2 44 v2 rfl rfl) h2
  clear hA0 hval0
  refine (walk a0 cap0 l0 a1 cap1 l1 rt2 W f0 sq0 f1 sq1 s2).mono fun e W' ⟨he, bel⟩ => ?_
  subst he
  exact ⟨_, rfl, _, _, _, [], _, [], hW', trodAll_mk1 (shut_bool Tryz.underlying4 _), (trodAll_cons_mk (Below.trod laidOut (by kernel_rfl) (of_decide_eq_true (by kernel_rfl)) k0 bel lt0) (trodAll_cons_mk (Below.trod laidOut (by kernel_rfl) (of_decide_eq_true (by kernel_rfl)) k1 bel lt1) (trodAll_cons_mk (Below.trod laidOut (by kernel_rfl) (of_decide_eq_true (by kernel_rfl)) k2 bel lt2) trodAll_mk0))), rfl, bel.frame _, fun h => by cases h⟩

theorem over : Rows.dumpOneRow.holds Tryz.pinned (OpenSpec.ofChange Rows.dumpOneSpec) :=
  OpenClaim.holds_of_wide 5 Tryz.f5 rfl rfl rfl rfl rfl rfl rfl ⟨rfl, rfl, rfl, rfl, rfl⟩ rfl rfl rfl rfl rfl (by kernel_rfl) Tryz.func5 (by kernel_rfl)
    (of_decide_eq_true (by kernel_rfl)) (by unfold Func.isWrapper; first | (rw [if_pos (by decide +kernel)]; kernel_rfl) | (rw [if_neg (by decide +kernel)]; exact ⟨rfl, rfl⟩))
    (fun os started H enc _ => lifted os started H enc)
end Go.Proofs.YtpimecnpdpcceaaGreat.LDumpOne

namespace Go.Proofs.YtpimecnpdpcceaaGreat
theorem dumpOne_holds : Rows.DumpOneSaid := LDumpOne.over
#print axioms dumpOne_holds
end Go.Proofs.YtpimecnpdpcceaaGreat

