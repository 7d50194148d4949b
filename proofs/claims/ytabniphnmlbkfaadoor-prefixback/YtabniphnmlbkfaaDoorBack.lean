/- Proved: PrefixBack: what is written is read as it was, whatever stands behind it; unlike ones have unlike bytes and texts. Condition: none of our own: the listed tables start as the program's text lays them. -/
import Derived.Test.YtabniphnmlbkfaaDoorP5
import Derived.SizedLaws
namespace Go.Proofs.YtabniphnmlbkfaaDoor.LPrefixBack
open Go.RowKit

theorem byte_zero (l : List UInt8) (a i : Nat) (_hl : l.length = 16) (h : tailZ l a) (hi : i < 16) (ha : a ≤ 8 * i) : l.getD i 0 = 0 := by
  apply byte_ext
  intro j hj
  have := h (8 * i + j) (by omega) (by omega)
  unfold bitOf at this
  rw [show (8 * i + j) / 8 = i by omega, show (8 * i + j) % 8 = j by omega] at this
  rw [this]
  simp
theorem get_ext (l m : List UInt8) (hl : l.length = 16) (hm : m.length = 16) (h : ∀ i, i < 16 → l.getD i 0 = m.getD i 0) : l = m := by
  apply List.ext_getElem (by omega)
  intro i h1 h2
  have := h i (by omega)
  simpa [h1, h2] using this
theorem pad_back (p : Px) (hp : p.addr.length = 16) (hr : rightP p) : padL (p.addr.take (needN p.len.toNat)) = p.addr := by
  refine get_ext _ _ (padL_len _) hp fun i hi => ?_
  rw [padL_get _ i hi, take_get]
  by_cases h : i < needN p.len.toNat
  · rw [if_pos h]
  · rw [if_neg h, byte_zero p.addr p.len.toNat i hp hr.2.2 hi (by unfold needN at h; omega)]
theorem head_back (p : Px) (hr : rightP p) : sixOf (headN p) = p.six ∧ lenOf (headN p) = p.len.toNat := by
  have h1 := hr.2.1
  unfold sixOf lenOf headN
  cases hs : p.six
  · rw [hs] at h1
    simp only [sizeN, Bool.false_eq_true, if_false] at h1 ⊢
    constructor
    · simp; omega
    · rw [if_neg (by omega)]; omega
  · rw [hs] at h1
    simp only [sizeN, if_true] at h1 ⊢
    constructor
    · simp
    · rw [if_pos (by omega)]; omega
theorem take_back (p : Px) (more : List UInt8) (hp : p.addr.length = 16) (hr : rightP p) : takeF (bytesL p ++ more) 0 = (p, 0, more, 0) := by
  have hh := head_lt p hr
  obtain ⟨h1, h2⟩ := head_back p hr
  have hb : V.byteF (bytesL p ++ more) 0 = (UInt8.ofNat (headN p), p.addr.take (needN p.len.toNat) ++ more, 0) := by
    unfold V.byteF bytesL
    rw [if_neg (by simp)]
    rfl
  have hs := sizeN_le p.six
  have g1 := hr.1
  have g2 := hr.2.1
  have hn : needN p.len.toNat ≤ 16 := by unfold needN; omega
  have hlen : (p.addr.take (needN p.len.toNat)).length = needN p.len.toNat := by simp; omega
  have hraw : V.rawF (p.addr.take (needN p.len.toNat) ++ more) 0 (needN p.len.toNat : Nat) = (p.addr.take (needN p.len.toNat), more, 0) := by
    unfold V.rawF
    rw [if_neg (by simp), if_neg (by omega), if_neg (by rw [List.length_append, hlen]; omega), Int.toNat_natCast, List.take_left' hlen, List.drop_left' hlen]
  unfold takeF
  rw [hb]
  simp only
  rw [UInt8.toNat_ofNat_of_lt' (by simpa [UInt8.size] using hh)]
  unfold tailF
  rw [h1, h2, hraw]
  simp only
  have hl : ((p.len.toNat : Nat) : Int) = p.len := by omega
  rw [hl, pad_back p hp hr, if_pos (by simp [fitsB]; omega), if_pos trivial, if_pos hr]
theorem bytes_inj (p q : Px) (hp : p.addr.length = 16) (hq : q.addr.length = 16) (hr : rightP p) (hs : rightP q) (h : bytesL p = bytesL q) : p = q := by
  have e1 := take_back p [] hp hr
  have e2 := take_back q [] hq hs
  rw [h, e2] at e1
  exact (congrArg Prod.fst e1).symm
theorem texts_inj (p q : Px) (hp : p.addr.length = 16) (hq : q.addr.length = 16) (hr : rightP p) (hs : rightP q) (h : textL p = textL q) : p = q := by
  obtain ⟨h1, h2, h3⟩ := text_inj _ _ _ _ _ _ h
  have a1 := hr.1
  have a2 := hs.1
  have b1 := hr.2.1
  have b2 := hs.2.1
  obtain ⟨s, l, n⟩ := p
  obtain ⟨t, m, k⟩ := q
  simp only at h1 h2 h3 a1 a2 hp hq b1 b2
  subst h1
  obtain rfl : n = k := by omega
  have : l = m := by
    refine get_ext l m hp hq fun i hi => ?_
    cases s
    · simp only [Bool.false_eq_true, if_false] at h3
      simp only [sizeN, Bool.false_eq_true, if_false] at b1
      by_cases hi4 : i < 4
      · exact h3 i hi4
      · rw [byte_zero l n.toNat i hp hr.2.2 hi (by omega), byte_zero m n.toNat i hq hs.2.2 hi (by omega)]
    · simp only [if_true] at h3
      exact h3 i hi
  rw [this]

set_option maxRecDepth 100000 in
set_option maxHeartbeats 8000000 in
theorem walk (a b : Px) (more : List UInt8) (w : World) (ha : a.addr.length = 16) (_ : -9223372036854775808 ≤ a.len ∧ a.len ≤ 9223372036854775807) (hb : b.addr.length = 16) (_ : -9223372036854775808 ≤ b.len ∧ b.len ≤ 9223372036854775807) (hmo : more.length ≤ 140737488351232) (ht : Tab w) : Calls Tryd.prog 5 #[.agg (pc a), .agg (pc b), .string ⟨more.toArray⟩] w fun e w' => e = .returned (.bool true) ∧ Same w w' := by
  obtain ⟨hA, hB, hS⟩ := two_at w a b ha hb
  have HRa := Lib.hid (qright a ha)
  have HRb := Lib.hid (qright b hb)
  have HAW := Lib.hid awake
  have HT := Lib.hid ht
  obtain ⟨n2, hn2⟩ : ∃ n, n = 18 := ⟨18, rfl⟩
  have hsz2 : ∀ w, (Go.sizeOf 24).run Tryd.prog w = .ok n2 w := fun w => by rw [hn2]; exact Tryd.sizeOf24 w
  have HA := Lib.hid hA
  have HB := Lib.hid hB
  have HS := Lib.hid hS
  have HN := Lib.hid hn2
  clear hA hB hS hn2 ht
  by_cases hr : rightP a
  · rw [decide_eq_true hr] at HRa
    by_cases hq : rightP b
    · rw [decide_eq_true hq] at HRb
      by_cases hl : more.length ≤ 300
      · have HBa := Lib.hid (bytes_ok a ha hr)
        have HBb := Lib.hid (bytes_ok b hb hq)
        have HTa := Lib.hid (text_ok a ha hr)
        have HTb := Lib.hid (text_ok b hb hq)
        have HTB := Lib.hid (take_back a more ha hr)
        have happ := app_list (bytesL a) more
        have HRD := Lib.hid (fun g w h => read_at g (bytesL a ++ more) 0 w h)
        unfold TakePost readF at HRD
        rw [HTB.out, if_pos (Or.inl rfl)] at HRD
        have hblen : (bytesL a).length ≤ 17 := by
          unfold bytesL
          have h1 := hr.2.1
          have h2 := sizeN_le a.six
          have : needN a.len.toNat ≤ 16 := by unfold needN; omega
          simp only [List.length_cons, List.length_take]
          omega
        have hYn : a ≠ b → ¬ bytesL a = bytesL b := fun h e => h (bytes_inj a b ha hb hr hq e)
        have hTn : a ≠ b → ¬ textL a = textL b := fun h e => h (texts_inj a b ha hb hr hq e)
        have hYe : a = b → bytesL a = bytesL b := fun h => by rw [h]
        have hTe : a = b → textL a = textL b := fun h => by rw [h]
        have HEA := Lib.hid (fun w => (eq_pc a a ha ha w).trans (by rw [decide_eq_true rfl]))
        have HEB := Lib.hid (fun w => eq_pc a b ha hb w)
        have hml : (bytesL a ++ more).length ≤ maxLen := by rw [List.length_append]; unfold maxLen; omega
        have hbl := hblen
        obtain ⟨hz, hi⟩ := zero_of_info info24
        have hsA : (pc a).size = n2 := by rw [HN.out]; exact pc_size a ha
        generalize bytesL a ++ more = Z at *
        generalize bytesL a = YA at *
        generalize bytesL b = YB at *
        generalize textL a = TA at *
        generalize textL b = TB at *
        clear hi hr hq hblen HTB
        go_enter Tryd.func5, Tryd.ntmps5
        go_wp2_with fail
        refine (HAW.out _ (HT.out.mono HS.out)).mono ?_
        rintro e w1 ⟨rfl, b1⟩
        have f1 := (HA.out.mono b1).whole HN.out
        go_wp2_with fail
        refine (HRa.out _).mono ?_
        rintro e w2 ⟨rfl, b2⟩
        have f2 := (HB.out.mono (b1.trans b2)).whole HN.out
        clear f1
        go_wp2_with fail
        refine (HRb.out _).mono ?_
        rintro e w3 ⟨rfl, b3⟩
        clear f2
        have c3 := (b1.trans b2).trans b3
        have f3 := (HA.out.mono c3).whole HN.out
        go_wp2_with fail
        refine (HBa.out _).mono ?_
        rintro e w4 ⟨rfl, b4⟩
        have c4 := c3.trans b4
        clear f3
        go_wp2_with fail
        refine (newreader Z w4 hml).mono ?_
        rintro e w5 ⟨_, rfl, rfl, hr5, hb5⟩
        have b5 : Same w4 w5 := hb5
        have hlt5 := hr5.lt
        go_wp2_with fail
        refine (HRD.out _ _ hr5).mono ?_
        rintro e w6 ⟨rfl, hr6, ho6⟩
        have hS6 : Same w4 w6 := b5.only ho6 (Nat.le_refl _)
        have hz6 := ho6.size
        obtain ⟨w7, st7, hp7, s7⟩ := new_at w6 a ha
        have c7 := c4.trans (hS6.trans s7)
        have HR7 := Lib.hid (hr6.same s7)
        have HTw := Lib.hid (HT.out.mono (HS.out.trans c7))
        have k1 : ∀ u : SW w7, (loadCellsFrom ⟨w6.heap.size, 0, none⟩ 0 n2 #[]).run Tryd.prog u.1 = .ok (pc a) u.1 := fun u => (hp7.mono u.2).whole HN.out
        have k2 : ∀ u : SW w7, (loadCellsFrom ⟨w.heap.size, 0, none⟩ 0 n2 #[]).run Tryd.prog u.1 = .ok (pc a) u.1 := fun u => ((HA.out.mono c7).mono u.2).whole HN.out
        have k3 : ∀ u : SW w7, (loadCellsFrom ⟨w.heap.size + 1, 0, none⟩ 0 n2 #[]).run Tryd.prog u.1 = .ok (pc b) u.1 := fun u => ((HB.out.mono c7).mono u.2).whole HN.out
        have HLE : ∀ u : SW w7, Calls Tryd.prog 28 #[.pointer (some ⟨w4.heap.size, 0, none⟩)] u.1 fun e w'' => e = .returned (.int .i64 (more.length : Nat)) ∧ ∃ m : SW w7, w'' = m.1 :=
          fun u => (left_at _ ⟨more.toArray⟩ u.1 (HR7.out.same u.2).rest).mono fun e w' ⟨he, hw⟩ => ⟨by rw [he]; rfl, u, hw.symm⟩
        have HL := Lib.hid HLE
        have HS7 := Lib.hid (HS.out.trans c7)
        have k4 := HEA.out
        have k5 := HEB.out
        clear HLE hr5 hb5 b5 hr6 ho6 hS6 s7 c3 c4 c7 b1 b2 b3 b4 HEA HEB
        by_cases hab : a = b
        · have e1 := hYe hab
          have e2 := hTe hab
          rw [decide_eq_true hab] at k5
          rw [← e1] at HBb
          rw [← e2] at HTb
          clear hYn hTn hYe hTe e1 e2 hab
          go_wp2_with fail
          refine wp_region_same (Same.refl _) (by kernel_rfl) (by kernel_rfl) ?_
          repeat (first | go_big_quiet_step (fail) | quiet_step (fail))
          first | go_big_quiet_step (exact HL.out _) | quiet_step (exact HL.out _)
          repeat (first | go_big_quiet_step (fail) | quiet_step (fail))
          first | go_big_quiet_step (exact HBa.out.at _) | quiet_step (exact HBa.out.at _)
          repeat (first | go_big_quiet_step (fail) | quiet_step (fail))
          first | go_big_quiet_step (exact HBb.out.at _) | quiet_step (exact HBb.out.at _)
          repeat (first | go_big_quiet_step (fail) | quiet_step (fail))
          first | go_big_quiet_step (exact HTa.out.at HTw.out _) | quiet_step (exact HTa.out.at HTw.out _)
          repeat (first | go_big_quiet_step (fail) | quiet_step (fail))
          first | go_big_quiet_step (exact HTb.out.at HTw.out _) | quiet_step (exact HTb.out.at HTw.out _)
          repeat (first | go_big_quiet_step (fail) | quiet_step (fail))
          refine wpQuiet_nil ?_
          rintro w8 ⟨⟨w9, b9⟩, rfl⟩
          go_wp2
          go_ret
          exact ⟨rfl, HS7.out.trans b9⟩
        · have e1 := hYn hab
          have e2 := hTn hab
          rw [decide_eq_false hab] at k5
          clear hYn hTn hYe hTe hab
          go_wp2_with fail
          refine wp_region_same (Same.refl _) (by kernel_rfl) (by kernel_rfl) ?_
          repeat (first | go_big_quiet_step (fail) | quiet_step (fail))
          first | go_big_quiet_step (exact HL.out _) | quiet_step (exact HL.out _)
          repeat (first | go_big_quiet_step (fail) | quiet_step (fail))
          first | go_big_quiet_step (exact HBa.out.at _) | quiet_step (exact HBa.out.at _)
          repeat (first | go_big_quiet_step (fail) | quiet_step (fail))
          first | go_big_quiet_step (exact HBb.out.at _) | quiet_step (exact HBb.out.at _)
          repeat (first | go_big_quiet_step (fail) | quiet_step (fail))
          first | go_big_quiet_step (exact HTa.out.at HTw.out _) | quiet_step (exact HTa.out.at HTw.out _)
          repeat (first | go_big_quiet_step (fail) | quiet_step (fail))
          first | go_big_quiet_step (exact HTb.out.at HTw.out _) | quiet_step (exact HTb.out.at HTw.out _)
          repeat (first | go_big_quiet_step (fail) | quiet_step (fail))
          refine wpQuiet_nil ?_
          rintro w8 ⟨⟨w9, b9⟩, rfl⟩
          go_wp2
          go_ret
          exact ⟨congrArg (fun b => Ending.returned (Value.bool b)) (show (!YA == YB && !TA == TB) = true by simp [e1, e2]), HS7.out.trans b9⟩
      · have hl2 : 300 < more.length := by omega
        go_enter Tryd.func5, Tryd.ntmps5
        go_wp2_with fail
        refine (HAW.out _ (HT.out.mono HS.out)).mono ?_
        rintro e w1 ⟨rfl, b1⟩
        have f1 := (HA.out.mono b1).whole HN.out
        go_wp2_with fail
        refine (HRa.out _).mono ?_
        rintro e w2 ⟨rfl, b2⟩
        have f2 := (HB.out.mono (b1.trans b2)).whole HN.out
        clear f1
        go_wp2_with fail
        refine (HRb.out _).mono ?_
        rintro e w3 ⟨rfl, b3⟩
        clear f2
        go_wp2_with fail
        refine (HAW.out _ (HT.out.mono (HS.out.trans ((b1.trans b2).trans b3)))).mono ?_
        rintro e w4 ⟨rfl, b4⟩
        go_wp2
        go_ret
        exact ⟨rfl, (HS.out.trans ((b1.trans b2).trans b3)).trans b4⟩
    · rw [decide_eq_false hq] at HRb
      go_enter Tryd.func5, Tryd.ntmps5
      go_wp2_with fail
      refine (HAW.out _ (HT.out.mono HS.out)).mono ?_
      rintro e w1 ⟨rfl, b1⟩
      have f1 := (HA.out.mono b1).whole HN.out
      go_wp2_with fail
      refine (HRa.out _).mono ?_
      rintro e w2 ⟨rfl, b2⟩
      have f2 := (HB.out.mono (b1.trans b2)).whole HN.out
      clear f1
      go_wp2_with fail
      refine (HRb.out _).mono ?_
      rintro e w3 ⟨rfl, b3⟩
      clear f2
      go_wp2_with fail
      refine (HAW.out _ (HT.out.mono (HS.out.trans ((b1.trans b2).trans b3)))).mono ?_
      rintro e w4 ⟨rfl, b4⟩
      go_wp2
      go_ret
      exact ⟨rfl, (HS.out.trans ((b1.trans b2).trans b3)).trans b4⟩
  · rw [decide_eq_false hr] at HRa
    go_enter Tryd.func5, Tryd.ntmps5
    go_wp2_with fail
    refine (HAW.out _ (HT.out.mono HS.out)).mono ?_
    rintro e w1 ⟨rfl, b1⟩
    have f1 := (HA.out.mono b1).whole HN.out
    go_wp2_with fail
    refine (HRa.out _).mono ?_
    rintro e w2 ⟨rfl, b2⟩
    have f2 := (HB.out.mono (b1.trans b2)).whole HN.out
    clear f1
    go_wp2_with fail
    refine (HAW.out _ (HT.out.mono (HS.out.trans (b1.trans b2)))).mono ?_
    rintro e w4 ⟨rfl, b4⟩
    go_wp2
    go_ret
    exact ⟨rfl, (HS.out.trans (b1.trans b2)).trans b4⟩

open Go.ChangeShapes Go.WideShapes Go.ChangeAt
set_option maxRecDepth 100000 in
theorem lifted (os : Os) (started : os.Started) (H : Type) (enc : TypeId × Value → H) :
    ReturnsInHanded {} Tryd.checked os 5 .any (fun w args => (Rows.prefixBackSpec.pre enc Tryd.prog Tryd.f5 [] false w args ∧ laidMetH Tryd.prog laid3 w) ∧ sizedMet enc Tryd.prog Tryd.f5 (OpenSpec.ofChange Rows.prefixBackSpec) false w args)
      (Rows.prefixBackSpec.post enc Tryd.prog Tryd.f5 false true false false) := by
  refine returnsInHanded_of_change_and (C := Tryd.checked) (X := fun w _ => laidMetH Tryd.prog laid3 w) (fun _ _ _ hh h => h.of_heap hh) own started (by kernel_rfl) Tryd.func5
    (ChangeSpec.witness_shaped (enc := enc) (C := Tryd.checked) (os := os) (X := fun w _ => laidMetH Tryd.prog laid3 w) false (World.doorLaid Tryd.prog 400 os) #[.agg (pc zeroP), .agg (pc zeroP), .string ⟨#[]⟩] 8 rfl (World.shaped_of_RefB (by kernel_rfl) (by kernel_rfl)) (by kernel_rfl) (by kernel_rfl) (by kernel_rfl) (door_met os _)) ?_
  intro W base args ds gs before hval0 hW _ hsz0 hL _
  have hval : ∀ (j : Nat) t v, Tryd.f5.params[j]? = some t → args[j]? = some v → Value.okWide Tryd.prog W .any base t v := hval0
  have hW' := hW
  obtain ⟨p, q, hA0, hV, rfl, hfz, hnd⟩ := hW
  have hA : DataW.TrodAll enc Tryd.prog W 0 (fun _ => true) true Tryd.f5.params.toList args.toList ds p := hA0
  have hsz : (DataW.weightsEach Tryd.prog (Tryd.f5.params.toList ++ Rows.prefixBackSpec.plain.varTypes Tryd.prog) (ds ++ gs)).all (· ≤ reachBytes) = true := hsz0
  rw [Tryd.params5] at hA hval hsz
  obtain ⟨v0, vs0, d0, ds0, p0, q0, hargs, rfl, rfl, h0, r0⟩ := trodAll_cons hA
  obtain ⟨v1, vs1, d1, ds1, p1, q1, rfl, rfl, rfl, h1, r1⟩ := trodAll_cons r0
  obtain ⟨v2, vs2, d2, ds2, p2, q2, rfl, rfl, rfl, h2, r2⟩ := trodAll_cons r1
  obtain ⟨rfl, rfl, rfl⟩ := trodAll_nil r2
  obtain rfl : args = #[v0, v1, v2] := by cases args; simp_all
  obtain ⟨rfl, rfl⟩ := trodVars_none hV
  have k0 := h0
  have lt0 : ∀ x ∈ p0, x.block < W.heap.size := by obtain ⟨m, hm⟩ := k0; exact DataW.trod_lt m _ _ _ hm
  have k1 := h1
  have lt1 : ∀ x ∈ p1, x.block < W.heap.size := by obtain ⟨m, hm⟩ := k1; exact DataW.trod_lt m _ _ _ hm
  have k2 := h2
  have lt2 : ∀ x ∈ p2, x.block < W.heap.size := by obtain ⟨m, hm⟩ := k2; exact DataW.trod_lt m _ _ _ hm
  obtain ⟨a0, rfl, l0, w0⟩ := open_prefix (hval 0 24 v0 rfl rfl) h0
  obtain ⟨a1, rfl, l1, w1⟩ := open_prefix (hval 1 24 v1 rfl rfl) h1
  obtain ⟨a2, rfl, hd2, _, w2⟩ := Go.ChangeMaps.open_string Tryd.underlying9 (hval 2 9 v2 rfl rfl) h2
  have z2 : a2.data.toList.length ≤ 140737488351232 := sized_string hsz (j := 2) (t := 9) rfl (by rw [hd2]; rfl)
  clear hA0 hval0
  refine (walk a0 a1 a2.data.toList W l0 (bounds_i64 w0) l1 (bounds_i64 w1) z2 (of_laid hL)).mono fun e W' ⟨he, bel0⟩ => ?_
  subst he
  have bel : Below W.heap.size W W' := bel0
  exact ⟨_, rfl, _, _, _, [], _, [], hW', trodAll_mk1 (shut_bool Tryd.underlying4 _), (trodAll_cons_mk (Below.trod laidOut (by kernel_rfl) (of_decide_eq_true (by kernel_rfl)) k0 bel lt0) (trodAll_cons_mk (Below.trod laidOut (by kernel_rfl) (of_decide_eq_true (by kernel_rfl)) k1 bel lt1) (trodAll_cons_mk (Below.trod laidOut (by kernel_rfl) (of_decide_eq_true (by kernel_rfl)) k2 bel lt2) trodAll_mk0))), rfl, bel.frame _, fun h => by cases h⟩

theorem over : Rows.prefixBackRow.holds Tryd.pinned (OpenSpec.ofChange Rows.prefixBackSpec) :=
  OpenClaim.holds_of_wide 5 Tryd.f5 rfl rfl rfl rfl rfl rfl rfl ⟨rfl, rfl, rfl, rfl, rfl⟩ rfl rfl rfl rfl rfl (by kernel_rfl) Tryd.func5 (by kernel_rfl)
    (of_decide_eq_true (by kernel_rfl)) (by unfold Func.isWrapper; first | (rw [if_pos (by decide +kernel)]; kernel_rfl) | (rw [if_neg (by decide +kernel)]; exact ⟨rfl, rfl⟩))
    (fun os started H enc _ => lifted os started H enc)
theorem card : Claim7.holds Tryd.pinned (.plain (OpenSpec.ofChange Rows.prefixBackSpec)) Rows.prefixBackCard :=
  Claim7.holds_tied_plain_at .later [] [.data, .data, .data] true (true, "99f48ac142fb8160a383948506df205cf7e87e3fed5a7f28b0a4a6954dfb29c2") false
    over (fun _ h => by cases h) (by kernel_rfl) (fun _ h => by cases h) prefixBack_row_tie rfl ⟨rfl, rfl⟩ (by kernel_rfl) rfl
    (fun f fn hf hfn => by
      obtain rfl : f = 5 := Option.some.inj ((show Tryd.prog.funcNamed Rows.prefixBackRow.func = some 5 by kernel_rfl).symm.trans hf) |>.symm
      obtain rfl : fn = Tryd.f5 := (Option.some.inj (Tryd.func5.symm.trans hfn)).symm
      exact ⟨by kernel_rfl, fun j t ht => by
        rw [Tryd.params5] at ht
        have hm : t ∈ [24, 24, 9] := by simpa using Array.mem_of_getElem? ht
        have hall : ([24, 24, 9].all fun u => !Tryd.prog.wantsStandIn u) = true := by kernel_rfl
        exact (show Tryd.prog.wantsStandIn t = false by simpa using List.all_eq_true.1 hall t hm)⟩)
    (by kernel_rfl)
end Go.Proofs.YtabniphnmlbkfaaDoor.LPrefixBack

namespace Go.Proofs.YtabniphnmlbkfaaDoor
theorem prefixBack_holds : Rows.PrefixBackCardSaid := LPrefixBack.card
#print axioms prefixBack_holds
end Go.Proofs.YtabniphnmlbkfaaDoor

