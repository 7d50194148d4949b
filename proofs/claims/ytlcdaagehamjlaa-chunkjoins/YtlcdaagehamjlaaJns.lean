/- Proved: ChunkJoins: a text's chunks are those of its first chunks' bytes, and those of the rest; for every two texts and every number. Condition: none of our own. -/
import Derived.Test.YtlcdaagehamjlaaAw
import Derived.ProofKit
import Derived.ChangeOld
import Derived.ShutString
import Derived.SizedLaws
namespace Go.Proofs.Ytlcdaagehamjlaa.LChunkJoins
open Go.RowKit

theorem app_list (x y : List UInt8) : (⟨x.toArray⟩ ++ ⟨y.toArray⟩ : ByteArray) = ⟨(x ++ y).toArray⟩ := by
  apply ByteArray.ext
  simp
/-- An operation whose guard says yes is carried out as one without a guard. -/
theorem wpList_as {P : Program} {ops : Array Oper} {Q : Exit → Act → World → Prop} {a : Act} {w : World} {rest : List Oper} {o : Oper} (hw : Region.wanted o (yielded ops a.tmps) = true)
    (h : wpList P ops Q ({ o with guard := none } :: rest) a w) : wpList P ops Q (o :: rest) a w := by
  unfold wpList at h ⊢
  rw [if_pos hw]
  rw [if_pos (show Region.wanted { o with guard := none } (yielded ops a.tmps) = true from rfl)] at h
  exact h
theorem cut_of {l : List UInt8} {m : Int} {k : Nat} (hk : sizeI m = k) (h0 : 0 < k) (h : l.length ≤ 256 * k) : cutE l m = 0 ∧ cutL l m = parts k l := by
  have he : cutE l m = 0 := by
    unfold cutE
    rw [hk, if_neg (by omega), if_neg (by omega)]
  refine ⟨he, ?_⟩
  unfold cutL
  rw [if_pos he, hk]
  rfl
theorem cut_big {l : List UInt8} {m : Int} {k : Nat} (hk : sizeI m = k) (h0 : 0 < k) (h : 256 * k < l.length) : cutE l m = 7 := by
  unfold cutE
  rw [hk, if_neg (by omega), if_pos (by omega)]

set_option maxRecDepth 100000 in
set_option maxHeartbeats 1000000 in
theorem walk (s t : List UInt8) (m : Int) (w : World) (hs : s.length ≤ 140737488351232) (ht : t.length ≤ 140737488351232) (_hm : (Lit.int .i64 m).wf = true) :
    Calls Try.prog 6 #[.string ⟨s.toArray⟩, .string ⟨t.toArray⟩, .int .i64 m] w fun e w' => e = .returned (.bool true) ∧ Keep w w' := by
  have HA := Lib.hid awake
  clear _hm
  by_cases hbig : 5000 < s.length + t.length
  · go_enter Try.func6, Try.ntmps6
    go_wp2_with fail
    refine (HA.out w).mono ?_
    rintro e w1 ⟨rfl, hK1⟩
    go_wp2_with fail
    refine (HA.out w1).mono ?_
    rintro e w2 ⟨rfl, hK2⟩
    have HK := Lib.hid (Keep.trans hK1 hK2)
    clear hK1 hK2
    go_wp2
    go_ret
    exact ⟨rfl, HK.out⟩
  · have hz := dsize m
    by_cases hk0 : sizeI m = 0
    · rw [hk0, if_pos rfl] at hz
      have HZ := Lib.hid hz
      clear hz hk0
      go_enter Try.func6, Try.ntmps6
      go_wp2_with fail
      refine (HA.out w).mono ?_
      rintro e w1 ⟨rfl, hK1⟩
      have HK := Lib.hid hK1
      clear hK1
      go_wp2_with fail
      refine (HZ.out w1).mono ?_
      rintro e w1 ⟨rfl, rfl⟩
      go_wp2
      go_ret
      exact ⟨rfl, HK.out⟩
    · have hcs := sizeI_cases m
      obtain ⟨k, hk⟩ := Int.eq_ofNat_of_zero_le (show 0 ≤ sizeI m by omega)
      have hk1 : 45 ≤ k := by omega
      have hk2 : k ≤ 1000 := by omega
      rw [if_neg hk0, hk] at hz
      have HZ := Lib.hid hz
      clear hz hk0 hcs
      by_cases hsk : s.length < k
      · clear hk
        go_enter Try.func6, Try.ntmps6
        go_wp2_with fail
        refine (HA.out w).mono ?_
        rintro e w1 ⟨rfl, hK1⟩
        have HK := Lib.hid hK1
        clear hK1
        go_wp2_with fail
        refine (HZ.out w1).mono ?_
        rintro e w1 ⟨rfl, rfl⟩
        go_wp2
        go_ret
        exact ⟨rfl, HK.out⟩
      · by_cases ht0 : t = []
        · subst ht0
          clear hk
          go_enter Try.func6, Try.ntmps6
          go_wp2_with fail
          refine (HA.out w).mono ?_
          rintro e w1 ⟨rfl, hK1⟩
          have HK := Lib.hid hK1
          clear hK1
          go_wp2_with fail
          refine (HZ.out w1).mono ?_
          rintro e w1 ⟨rfl, rfl⟩
          go_wp2
          go_ret
          exact ⟨rfl, HK.out⟩
        · have htn : t.isEmpty = false := by cases t <;> simp_all
          obtain ⟨a, ha⟩ : ∃ a, s.length / k = a := ⟨_, rfl⟩
          have ha1 : 1 ≤ a := by rw [← ha]; exact Nat.div_pos (by omega) (by omega)
          have hH : a * k ≤ s.length := by rw [← ha]; exact Nat.div_mul_le_self _ _
          have hdiv : (s.length : Int) / (k : Int) = (a : Nat) := by rw [← ha]; exact (Int.natCast_ediv _ _).symm
          have hmul : (a : Int) * (k : Int) = (a * k : Nat) := (Int.natCast_mul _ _).symm
          have hal : a ≤ 5000 := by rw [← ha]; exact Nat.le_trans (Nat.div_le_self _ _) (by omega)
          have hext := ext_mid s 0 (a * k)
          rw [List.drop_zero, Nat.sub_zero] at hext
          obtain ⟨h, hh⟩ : ∃ h, s.take (a * k) = h := ⟨_, rfl⟩
          have hhl : h.length = a * k := by rw [← hh, List.length_take]; omega
          rw [hh] at hext
          have happ := app_list h t
          have HP := Lib.hid (parts_append (k := k) (a := a) (by omega) ha1 hhl ht0)
          have HL := Lib.hid hhl
          have H1 := Lib.hid (fun w => dcut (h ++ t) m w (by rw [List.length_append, hhl]; omega))
          have H2 := Lib.hid (fun w => dcut h m w (by rw [hhl]; omega))
          have H3 := Lib.hid (fun w => dcut t m w (by omega))
          have HM := Lib.hid hk
          have hh5 : h.length ≤ 5000 := by omega
          have HT := Lib.hid ht0
          generalize a * k = H at *
          clear hh hk ha ht0 hhl
          by_cases hfit : 256 * k < (h ++ t).length
          · rw [cut_big HM.out (by omega) hfit] at H1
            clear hfit
            go_enter Try.func6, Try.ntmps6
            go_wp2_with fail
            refine (HA.out w).mono ?_
            rintro e w1 ⟨rfl, hK1⟩
            have HK := Lib.hid hK1
            clear hK1
            go_wp2_with fail
            refine (HZ.out w1).mono ?_
            rintro e w1 ⟨rfl, rfl⟩
            go_wp2_with fail
            refine (H1.out w1).mono ?_
            rintro e w2 ⟨v1, rfl, _, hK⟩
            have HK := Lib.hid (Keep.trans HK.out hK)
            clear hK
            go_wp2_with fail
            refine (H2.out w2).mono ?_
            rintro e w3 ⟨v2, rfl, _, hK⟩
            have HK := Lib.hid (Keep.trans HK.out hK)
            clear hK
            go_wp2_with fail
            refine (H3.out w3).mono ?_
            rintro e w4 ⟨v3, rfl, _, hK⟩
            have HK := Lib.hid (Keep.trans HK.out hK)
            clear hK
            go_wp2
            go_ret
            exact ⟨rfl, HK.out⟩
          · have hlen : (h ++ t).length ≤ 256 * k := by omega
            have hl2 := hlen
            rw [List.length_append] at hl2
            obtain ⟨c1, d1⟩ := cut_of (l := h ++ t) HM.out (by omega) hlen
            obtain ⟨c2, d2⟩ := cut_of (l := h) HM.out (by omega) (by omega)
            obtain ⟨c3, d3⟩ := cut_of (l := t) HM.out (by omega) (by omega)
            rw [c1, d1, HP.out] at H1
            rw [c2, d2] at H2
            rw [c3, d3] at H3
            have hn2 : (parts k h).length ≤ 256 := by rw [parts_len]; exact cnt_all (by omega) (by omega) (by omega)
            have hn3 : (parts k t).length ≤ 256 := by rw [parts_len]; exact cnt_all (by omega) (by omega) (by omega)
            have HN2 := Lib.hid hn2
            have HN3 := Lib.hid hn3
            clear hfit hlen hl2 c1 d1 c2 d2 c3 d3 HP hn2 hn3
            generalize parts k h = L2 at *
            generalize parts k t = L3 at *
            go_enter Try.func6, Try.ntmps6
            go_wp2_with fail
            refine (HA.out w).mono ?_
            rintro e w1 ⟨rfl, hK1⟩
            have HK := Lib.hid hK1
            clear hK1
            go_wp2_with fail
            refine (HZ.out w1).mono ?_
            rintro e w1 ⟨rfl, rfl⟩
            go_wp2_with fail
            refine (H1.out w1).mono ?_
            rintro e w2 ⟨v1, rfl, hO, hK⟩
            have O1 := Lib.hid (OwnS.cells hO)
            have HK := Lib.hid (Keep.trans HK.out hK)
            clear hK hO
            go_wp2_with fail
            refine (H2.out w2).mono ?_
            rintro e w3 ⟨v2, rfl, hO, hK⟩
            have O2 := Lib.hid (OwnS.cells hO)
            have O1 := Lib.hid (O1.out.keep hK)
            have HK := Lib.hid (Keep.trans HK.out hK)
            clear hK hO
            go_wp2_with fail
            refine (H3.out w3).mono ?_
            rintro e w4 ⟨v3, rfl, hO, hK⟩
            have O3 := Lib.hid (OwnS.cells hO)
            have O2 := Lib.hid (O2.out.keep hK)
            have O1 := Lib.hid (O1.out.keep hK)
            have HK := Lib.hid (Keep.trans HK.out hK)
            clear hK hO
            have KA := Lib.hid ((Keep.refl w4).alloc (.cells #[] 9))
            have HO := Lib.hid (Own.made (t := 9) (k := 1) (enc := se) w4.heap.size w4 (Nat.le_refl _))
            go_wp2_with (at_builtin; refine wpList_as ?g0 (wp_app elS rfl _ _ rfl w4.heap.size _ _ [] L2 rfl rfl HO.out (O2.out.keep KA.out) ?q1 ?q2 ?q3 ?_))
            case q1 => have := HN2.out; simp; omega
            case q2 => have := HN2.out; simp; omega
            case q3 => simp
            intro v5 w5 hO hG
            have HO5 := Lib.hid hO
            have K5 := Lib.hid (HO.out.grown KA.out (Nat.le_refl _) hG)
            clear hO hG
            go_wp2_with (at_builtin; refine wpList_as ?g1 (wp_app elS rfl _ _ rfl w4.heap.size _ _ L2 L3 rfl rfl HO5.out (O3.out.keep K5.out) ?r1 ?r2 ?r3 ?_))
            case r1 => have := HN2.out; have := HN3.out; simp; omega
            case r2 => have := HN2.out; have := HN3.out; simp; omega
            case r3 => exact K5.out.size
            intro v6 w6 hO hG
            have O6 := Lib.hid (OwnS.cells hO)
            have K6 := Lib.hid (HO5.out.grown K5.out (Nat.le_refl _) hG)
            clear hO hG
            have HS := Lib.hid (qsame v1 v6 (L2 ++ L3) (L2 ++ L3) w6 (O1.out.keep K6.out) O6.out (by have := HN2.out; have := HN3.out; simp; omega) (by have := HN2.out; have := HN3.out; simp; omega))
            rw [decide_eq_true rfl] at HS
            go_wp2_with fail
            refine HS.out.mono ?_
            rintro e w7 ⟨rfl, hK⟩
            have HK := Lib.hid (Keep.trans (Keep.trans HK.out K6.out) hK)
            clear hK
            go_wp2
            go_ret
            exact ⟨rfl, HK.out⟩

open Go.ChangeShapes Go.WideShapes Go.ChangeAt
theorem own : ownKnob Try.prog.godebug = none := by kernel_rfl
theorem laidOut : laidOutB Try.prog = true := by kernel_rfl

set_option maxRecDepth 100000 in
theorem lifted (os : Os) (started : os.Started) (H : Type) (enc : TypeId × Value → H) :
    ReturnsInHanded {} Try.checked os 6 .any (Rows.chunkJoinsSpec.pre6 enc Try.prog Try.f6 Rows.chunkJoinsRow.domain false) (Rows.chunkJoinsSpec.post enc Try.prog Try.f6 false true false false) := by
  refine returnsInHanded_of_change_sized (C := Try.checked) own started (by kernel_rfl) Try.func6
    (ChangeSpec.witness6 (enc := enc) (C := Try.checked) false ⟨#[], #[.string ⟨#[]⟩, .string ⟨#[]⟩, .int .i64 0], []⟩ 8 (by kernel_rfl) (by kernel_rfl) (by kernel_rfl) (by kernel_rfl)) ?_
  intro W base args ds gs before hval0 hW hcnd hsz0 _
  have hval : ∀ (j : Nat) t v, Try.f6.params[j]? = some t → args[j]? = some v → Value.okWide Try.prog W .any base t v := hval0
  have hW' := hW
  obtain ⟨p, q, hA0, hV, rfl, hfz, hnd⟩ := hW
  have hA : DataW.TrodAll enc Try.prog W 0 (fun _ => true) true Try.f6.params.toList args.toList ds p := hA0
  have hsz : (DataW.weightsEach Try.prog (Try.f6.params.toList ++ Rows.chunkJoinsSpec.plain.varTypes Try.prog) (ds ++ gs)).all (· ≤ reachBytes) = true := hsz0
  rw [Try.params6] at hA hval hsz
  obtain ⟨v0, vs0, d0, ds0, p0, q0, hargs, rfl, rfl, h0, r0⟩ := trodAll_cons hA
  obtain ⟨v1, vs1, d1, ds1, p1, q1, rfl, rfl, rfl, h1, r1⟩ := trodAll_cons r0
  obtain ⟨v2, vs2, d2, ds2, p2, q2, rfl, rfl, rfl, h2, r2⟩ := trodAll_cons r1
  obtain ⟨rfl, rfl, rfl⟩ := trodAll_nil r2
  obtain rfl : args = #[v0, v1, v2] := by cases args; simp_all
  obtain ⟨rfl, rfl⟩ := trodVars_none hV
  have k0 := h0
  have lt0 : ∀ x ∈ p0, x.block < W.heap.size := by obtain ⟨m, hm⟩ := k0; exact DataW.trod_lt m _ _ _ hm
  have k1 := h1
  have lt1 : ∀ x ∈ p1, x.block < W.heap.size := by obtain ⟨m, hm⟩ := k1; exact DataW.trod_lt m _ _ _ hm
  have k2 := h2
  have lt2 : ∀ x ∈ p2, x.block < W.heap.size := by obtain ⟨m, hm⟩ := k2; exact DataW.trod_lt m _ _ _ hm
  obtain ⟨a0, rfl, hd0, _, w0⟩ := Go.ChangeMaps.open_string Try.underlying9 (hval 0 9 v0 rfl rfl) h0
  have z0 : a0.data.toList.length ≤ 140737488351232 := sized_string hsz (j := 0) (t := 9) rfl (by rw [hd0]; rfl)
  obtain ⟨a1, rfl, hd1, _, w1⟩ := Go.ChangeMaps.open_string Try.underlying9 (hval 1 9 v1 rfl rfl) h1
  have z1 : a1.data.toList.length ≤ 140737488351232 := sized_string hsz (j := 1) (t := 9) rfl (by rw [hd1]; rfl)
  obtain ⟨a2, rfl, _, _, w2⟩ := open_int Try.underlying3 (hval 2 3 v2 rfl rfl) h2
  clear hA0 hval0
  refine (walk a0.data.toList a1.data.toList a2 W z0 z1 w2).mono fun e W' ⟨he, bel⟩ => ?_
  subst he
  exact ⟨_, rfl, _, _, _, [], _, [], hW', trodAll_mk1 (shut_bool Try.underlying4 _), (trodAll_cons_mk (Below.trod laidOut (by kernel_rfl) (of_decide_eq_true (by kernel_rfl)) k0 bel lt0) (trodAll_cons_mk (Below.trod laidOut (by kernel_rfl) (of_decide_eq_true (by kernel_rfl)) k1 bel lt1) (trodAll_cons_mk (Below.trod laidOut (by kernel_rfl) (of_decide_eq_true (by kernel_rfl)) k2 bel lt2) trodAll_mk0))), rfl, bel.frame _, fun h => by cases h⟩

theorem over : Rows.chunkJoinsRow.holds Try.pinned (OpenSpec.ofChange Rows.chunkJoinsSpec) :=
  OpenClaim.holds_of_wide 6 Try.f6 rfl rfl rfl rfl rfl rfl rfl ⟨rfl, rfl, rfl, rfl, rfl⟩ rfl rfl rfl rfl rfl (by kernel_rfl) Try.func6 (by kernel_rfl)
    (of_decide_eq_true (by kernel_rfl)) (by unfold Func.isWrapper; first | (rw [if_pos (by decide +kernel)]; kernel_rfl) | (rw [if_neg (by decide +kernel)]; exact ⟨rfl, rfl⟩))
    (fun os started H enc _ => lifted os started H enc)
end Go.Proofs.Ytlcdaagehamjlaa.LChunkJoins

namespace Go.Proofs.Ytlcdaagehamjlaa
theorem chunkJoins_holds : Rows.ChunkJoinsSaid := LChunkJoins.over
#print axioms chunkJoins_holds
end Go.Proofs.Ytlcdaagehamjlaa

