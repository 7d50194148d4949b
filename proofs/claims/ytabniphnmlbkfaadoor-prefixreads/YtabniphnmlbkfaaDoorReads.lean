/- Proved: PrefixReads: any bytes go on with the prefix that the document says, or with none; any address's first bits are the prefix that it says. Condition: none of our own: the listed tables start as the program's text lays them. -/
import Derived.Test.YtabniphnmlbkfaaDoorP5
import Derived.SizedLaws
namespace Go.Proofs.YtabniphnmlbkfaaDoor.LPrefixReads
open Go.RowKit

theorem makes (s : Bool) (l : List UInt8) (n : Int) (hl : l.length ≤ 300) : ∃ (M : Px) (G : Int) (O : Bool), M.addr.length = 16 ∧ Gives Tryd.prog 26 #[.bool s, .string ⟨l.toArray⟩, .int .i64 n] (.tuple #[.agg (pc M), .int .i64 G]) ∧ Gives Tryd.prog 27 #[.bool s, .string ⟨l.toArray⟩, .int .i64 n] (.tuple #[.agg (pc M), .bool O]) ∧ ((G = 0 ∧ O = true) ∨ (G = 1 ∧ O = false)) := by
  cases h : makeP s l n with
  | none => exact ⟨zeroP, 1, false, rfl, make_no s l n (by omega) h, qmake_no s l n (by omega) h, .inr ⟨rfl, rfl⟩⟩
  | some p => exact ⟨p, 0, true, by rw [(makeP_some h).2.2]; exact cutL_len _ _, make_ok s l n p h, qmake_ok s l n p h, .inl ⟨rfl, rfl⟩⟩
theorem new36 (w : World) (l : List UInt8) (hl : l.length ≤ maxLen) : Rd (w.alloc (.cells #[.string ⟨l.toArray⟩, .int .i64 0] 36)) w.heap.size l 0 := ⟨by go_simp, by go_simp, by go_simp, by go_simp, hl⟩
theorem readF_fst (l : List UInt8) (x : Int) : (readF l x).1 = (takeF l x).1 ∧ (readF l x).2.1 = (takeF l x).2.1 := by
  unfold readF
  split <;> exact ⟨rfl, rfl⟩
theorem readF_ok (l : List UInt8) (x : Int) (h : (takeF l x).2.1 = 0) : readF l x = takeF l x := by
  unfold readF
  rw [if_pos (Or.inl h)]

set_option maxRecDepth 100000 in
set_option maxHeartbeats 8000000 in
theorem walk (s : List UInt8) (six : Bool) (addr : List UInt8) (n : Int) (w : World) (hs : s.length ≤ 140737488351232) (had : addr.length ≤ 140737488351232) (_ : -9223372036854775808 ≤ n ∧ n ≤ 9223372036854775807) (ht : Tab w) : Calls Tryd.prog 4 #[.string ⟨s.toArray⟩, .bool six, .string ⟨addr.toArray⟩, .int .i64 n] w fun e w' => e = .returned (.bool true) ∧ Same w w' := by
  have HAW := Lib.hid awake
  have HT := Lib.hid ht
  clear ht
  by_cases hl : s.length ≤ 300 ∧ addr.length ≤ 300
  · obtain ⟨hl1, hl2⟩ := hl
    obtain ⟨M, G, O, hM, m1, m2, hGO⟩ := makes six addr n hl2
    obtain ⟨hz, hi⟩ := zero_of_info info24
    obtain ⟨n2, hn2⟩ : ∃ n, n = 18 := ⟨18, rfl⟩
    have hsz2 : ∀ w, (Go.sizeOf 24).run Tryd.prog w = .ok n2 w := fun w => by rw [hn2]; exact Tryd.sizeOf24 w
    have hP := takeF_len s 0
    obtain ⟨r1, r2⟩ := readF_fst s 0
    have r3 := readF_ok s 0
    have HRD := Lib.hid (fun b w h => read_at b s 0 w h)
    have HQR := Lib.hid (fun b w h => qread_at b s 0 w h)
    unfold TakePost at HRD HQR
    rw [r1, r2] at HRD
    generalize readF s 0 = F at *
    generalize takeF s 0 = q at *
    obtain ⟨P, E, L, X⟩ := q
    obtain ⟨F1, F2, F3, F4⟩ := F
    simp only at hP r1 r2 r3 HRD HQR
    have hsP : (pc P).size = n2 := by rw [hn2]; exact pc_size P hP
    have hsM : (pc M).size = n2 := by rw [hn2]; exact pc_size M hM
    have HEP := Lib.hid (fun w => (eq_pc P P hP hP w).trans (by rw [decide_eq_true rfl]))
    have HEM := Lib.hid (fun w => (eq_pc M M hM hM w).trans (by rw [decide_eq_true rfl]))
    have HM1 := Lib.hid m1
    have HM2 := Lib.hid m2
    have HN := Lib.hid hn2
    have R3 := Lib.hid r3
    clear hn2 hi m1 m2 r1 r2 r3
    go_enter Tryd.func4, Tryd.ntmps4
    go_wp2_with fail
    refine (HAW.out _ HT.out).mono ?_
    rintro e w1 ⟨rfl, b1⟩
    go_wp2_with fail
    refine (newreader s w1 (by unfold maxLen; omega)).mono ?_
    rintro e w2 ⟨_, rfl, rfl, hr2, hb2⟩
    have hlt2 := hr2.lt
    have b2 : Same w1 w2 := hb2
    have hA3 : Same w1 (w2.alloc (.cells #[.string ⟨s.toArray⟩, .int .i64 0] 36)) := b2.alloc _
    have hr3 := hr2.same ((Same.refl w2).alloc (.cells #[.string ⟨s.toArray⟩, .int .i64 0] 36))
    have hq3 := new36 w2 s (by unfold maxLen; omega)
    have hz3 : (w2.alloc (.cells #[.string ⟨s.toArray⟩, .int .i64 0] 36)).heap.size = w2.heap.size + 1 := by simp
    clear hr2 hb2
    go_wp2_with fail
    refine (HRD.out _ _ hr3).mono ?_
    rintro e w4 ⟨rfl, hr4, ho4⟩
    have hq4 := hq3.other ho4 (by omega) (by omega)
    have hS4 : Same w1 w4 := hA3.only ho4 (Nat.le_refl _)
    have hz4 := ho4.size
    obtain ⟨w5, st5, hp5, s5⟩ := new_at w4 P hP
    have hr5 := hr4.same s5
    have hq5 := hq4.same s5
    have hS5 := hS4.trans s5
    have hz5 := hp5.lt
    clear hr3 hq3 hA3 hr4 ho4 hq4 hS4 s5
    go_wp2_with fail
    refine (HQR.out _ _ hq5).mono ?_
    rintro e w6 ⟨rfl, hq6, ho6⟩
    have hr6 := hr5.other ho6 (by omega) (by omega)
    have hp6 := hp5.only ho6 (by omega)
    have hS6 : Same w1 w6 := hS5.only ho6 (by omega)
    obtain ⟨w7, st7, hp7, s7⟩ := new_at w6 P hP
    have hr7 := hr6.same s7
    have hq7 := hq6.same s7
    have hP7 := hp6.mono s7
    have hS7 := hS6.trans s7
    clear hr5 hq5 hp5 hS5 ho6 hr6 hq6 hp6 hS6 s7 st5
    go_wp2_with fail
    refine (HM1.out _).mono ?_
    rintro e w8 ⟨rfl, b8⟩
    obtain ⟨w9, st9, hm9, s9⟩ := new_at w8 M hM
    have b89 := b8.trans s9
    go_wp2_with fail
    refine (HM2.out _).mono ?_
    rintro e w10 ⟨rfl, b10⟩
    obtain ⟨w11, st11, hm11, s11⟩ := new_at w10 M hM
    have c11 := b10.trans s11
    have d11 := b89.trans c11
    have HR11 := Lib.hid (hr7.same d11)
    have HQ11 := Lib.hid (hq7.same d11)
    have k1 : ∀ u : SW w11, (loadCellsFrom ⟨w4.heap.size, 0, none⟩ 0 n2 #[]).run Tryd.prog u.1 = .ok (pc P) u.1 := fun u => ((hP7.mono d11).mono u.2).whole HN.out
    have k2 : ∀ u : SW w11, (loadCellsFrom ⟨w6.heap.size, 0, none⟩ 0 n2 #[]).run Tryd.prog u.1 = .ok (pc P) u.1 := fun u => ((hp7.mono d11).mono u.2).whole HN.out
    have k3 : ∀ u : SW w11, (loadCellsFrom ⟨w8.heap.size, 0, none⟩ 0 n2 #[]).run Tryd.prog u.1 = .ok (pc M) u.1 := fun u => ((hm9.mono c11).mono u.2).whole HN.out
    have k4 : ∀ u : SW w11, (loadCellsFrom ⟨w10.heap.size, 0, none⟩ 0 n2 #[]).run Tryd.prog u.1 = .ok (pc M) u.1 := fun u => (hm11.mono u.2).whole HN.out
    have k5 := HEP.out
    have k6 := HEM.out
    have HS11 := Lib.hid ((b1.trans hS7).trans d11)
    clear hr7 hq7 hP7 hp7 hm9 hm11 hS7 b8 s9 b10 s11 b89 c11 d11 st7 st9 HEP HEM b1 b2
    by_cases hE : E = 0
    · subst hE
      have hF := R3.out rfl
      simp only [Prod.mk.injEq] at hF
      obtain ⟨-, -, rfl, rfl⟩ := hF
      have k7 : ∀ u : SW w11, u.1.cell? ⟨w2.heap.size, 0, none⟩ = some (.string ⟨F3.toArray⟩) := fun u => (HQ11.out.same u.2).rest
      have HLE : ∀ u : SW w11, Calls Tryd.prog 28 #[.pointer (some ⟨w1.heap.size, 0, none⟩)] u.1 fun e w'' => e = .returned (.int .i64 (F3.length : Nat)) ∧ ∃ m : SW w11, w'' = m.1 :=
        fun u => (left_at _ ⟨F3.toArray⟩ u.1 (HR11.out.same u.2).rest).mono fun e w' ⟨he, hw⟩ => ⟨by rw [he]; rfl, u, hw.symm⟩
      have HL := Lib.hid HLE
      clear HLE
      rcases hGO with ⟨rfl, rfl⟩ | ⟨rfl, rfl⟩
      all_goals
        go_wp2_with fail
        refine wp_region_same (Same.refl _) (by kernel_rfl) (by kernel_rfl) ?_
        repeat (first | go_big_quiet_step (exact HL.out _) | quiet_step (exact HL.out _))
        refine wpQuiet_nil ?_
        rintro w12 ⟨⟨w13, b13⟩, rfl⟩
        go_wp2
        go_ret
        exact ⟨rfl, HS11.out.trans b13⟩
    · have hbE : (E != 0) = true := by simpa using hE
      rcases hGO with ⟨rfl, rfl⟩ | ⟨rfl, rfl⟩
      all_goals
        go_wp2_with fail
        refine wp_region_same (Same.refl _) (by kernel_rfl) (by kernel_rfl) ?_
        repeat (first | go_big_quiet_step (fail) | quiet_step (fail))
        refine wpQuiet_nil ?_
        rintro w12 ⟨⟨w13, b13⟩, rfl⟩
        go_wp2
        go_ret
        exact ⟨rfl, HS11.out.trans b13⟩
  · by_cases h1 : s.length ≤ 300
    · have h2 : 300 < addr.length := by omega
      go_enter Tryd.func4, Tryd.ntmps4
      go_wp2_with fail
      refine (HAW.out _ HT.out).mono ?_
      rintro e w1 ⟨rfl, b1⟩
      go_wp2_with fail
      refine (HAW.out _ (HT.out.mono b1)).mono ?_
      rintro e w2 ⟨rfl, b2⟩
      go_wp2
      go_ret
      exact ⟨rfl, b1.trans b2⟩
    · have h2 : 300 < s.length := by omega
      go_enter Tryd.func4, Tryd.ntmps4
      go_wp2_with fail
      refine (HAW.out _ HT.out).mono ?_
      rintro e w1 ⟨rfl, b1⟩
      go_wp2_with fail
      refine (HAW.out _ (HT.out.mono b1)).mono ?_
      rintro e w2 ⟨rfl, b2⟩
      go_wp2
      go_ret
      exact ⟨rfl, b1.trans b2⟩

open Go.ChangeShapes Go.WideShapes Go.ChangeAt
set_option maxRecDepth 100000 in
theorem lifted (os : Os) (started : os.Started) (H : Type) (enc : TypeId × Value → H) :
    ReturnsInHanded {} Tryd.checked os 4 .any (fun w args => (Rows.prefixReadsSpec.pre enc Tryd.prog Tryd.f4 [] false w args ∧ laidMetH Tryd.prog laid3 w) ∧ sizedMet enc Tryd.prog Tryd.f4 (OpenSpec.ofChange Rows.prefixReadsSpec) false w args)
      (Rows.prefixReadsSpec.post enc Tryd.prog Tryd.f4 false true false false) := by
  refine returnsInHanded_of_change_and (C := Tryd.checked) (X := fun w _ => laidMetH Tryd.prog laid3 w) (fun _ _ _ hh h => h.of_heap hh) own started (by kernel_rfl) Tryd.func4
    (ChangeSpec.witness_shaped (enc := enc) (C := Tryd.checked) (os := os) (X := fun w _ => laidMetH Tryd.prog laid3 w) false (World.doorLaid Tryd.prog 400 os) #[.string ⟨#[]⟩, .bool false, .string ⟨#[]⟩, .int .i64 0] 8 rfl (World.shaped_of_RefB (by kernel_rfl) (by kernel_rfl)) (by kernel_rfl) (by kernel_rfl) (by kernel_rfl) (door_met os _)) ?_
  intro W base args ds gs before hval0 hW _ hsz0 hL _
  have hval : ∀ (j : Nat) t v, Tryd.f4.params[j]? = some t → args[j]? = some v → Value.okWide Tryd.prog W .any base t v := hval0
  have hW' := hW
  obtain ⟨p, q, hA0, hV, rfl, hfz, hnd⟩ := hW
  have hA : DataW.TrodAll enc Tryd.prog W 0 (fun _ => true) true Tryd.f4.params.toList args.toList ds p := hA0
  have hsz : (DataW.weightsEach Tryd.prog (Tryd.f4.params.toList ++ Rows.prefixReadsSpec.plain.varTypes Tryd.prog) (ds ++ gs)).all (· ≤ reachBytes) = true := hsz0
  rw [Tryd.params4] at hA hval hsz
  obtain ⟨v0, vs0, d0, ds0, p0, q0, hargs, rfl, rfl, h0, r0⟩ := trodAll_cons hA
  obtain ⟨v1, vs1, d1, ds1, p1, q1, rfl, rfl, rfl, h1, r1⟩ := trodAll_cons r0
  obtain ⟨v2, vs2, d2, ds2, p2, q2, rfl, rfl, rfl, h2, r2⟩ := trodAll_cons r1
  obtain ⟨v3, vs3, d3, ds3, p3, q3, rfl, rfl, rfl, h3, r3⟩ := trodAll_cons r2
  obtain ⟨rfl, rfl, rfl⟩ := trodAll_nil r3
  obtain rfl : args = #[v0, v1, v2, v3] := by cases args; simp_all
  obtain ⟨rfl, rfl⟩ := trodVars_none hV
  have k0 := h0
  have lt0 : ∀ x ∈ p0, x.block < W.heap.size := by obtain ⟨m, hm⟩ := k0; exact DataW.trod_lt m _ _ _ hm
  have k1 := h1
  have lt1 : ∀ x ∈ p1, x.block < W.heap.size := by obtain ⟨m, hm⟩ := k1; exact DataW.trod_lt m _ _ _ hm
  have k2 := h2
  have lt2 : ∀ x ∈ p2, x.block < W.heap.size := by obtain ⟨m, hm⟩ := k2; exact DataW.trod_lt m _ _ _ hm
  have k3 := h3
  have lt3 : ∀ x ∈ p3, x.block < W.heap.size := by obtain ⟨m, hm⟩ := k3; exact DataW.trod_lt m _ _ _ hm
  obtain ⟨a0, rfl, hd0, _, w0⟩ := Go.ChangeMaps.open_string Tryd.underlying9 (hval 0 9 v0 rfl rfl) h0
  have z0 : a0.data.toList.length ≤ 140737488351232 := sized_string hsz (j := 0) (t := 9) rfl (by rw [hd0]; rfl)
  obtain ⟨a1, rfl, _, _⟩ := open_bool Tryd.underlying4 (hval 1 4 v1 rfl rfl) h1
  obtain ⟨a2, rfl, hd2, _, w2⟩ := Go.ChangeMaps.open_string Tryd.underlying9 (hval 2 9 v2 rfl rfl) h2
  have z2 : a2.data.toList.length ≤ 140737488351232 := sized_string hsz (j := 2) (t := 9) rfl (by rw [hd2]; rfl)
  obtain ⟨a3, rfl, _, _, w3⟩ := open_int Tryd.underlying3 (hval 3 3 v3 rfl rfl) h3
  clear hA0 hval0
  refine (walk a0.data.toList a1 a2.data.toList a3 W z0 z2 (bounds_i64 w3) (of_laid hL)).mono fun e W' ⟨he, bel0⟩ => ?_
  subst he
  have bel : Below W.heap.size W W' := bel0
  exact ⟨_, rfl, _, _, _, [], _, [], hW', trodAll_mk1 (shut_bool Tryd.underlying4 _), (trodAll_cons_mk (Below.trod laidOut (by kernel_rfl) (of_decide_eq_true (by kernel_rfl)) k0 bel lt0) (trodAll_cons_mk (Below.trod laidOut (by kernel_rfl) (of_decide_eq_true (by kernel_rfl)) k1 bel lt1) (trodAll_cons_mk (Below.trod laidOut (by kernel_rfl) (of_decide_eq_true (by kernel_rfl)) k2 bel lt2) (trodAll_cons_mk (Below.trod laidOut (by kernel_rfl) (of_decide_eq_true (by kernel_rfl)) k3 bel lt3) trodAll_mk0)))), rfl, bel.frame _, fun h => by cases h⟩

theorem over : Rows.prefixReadsRow.holds Tryd.pinned (OpenSpec.ofChange Rows.prefixReadsSpec) :=
  OpenClaim.holds_of_wide 4 Tryd.f4 rfl rfl rfl rfl rfl rfl rfl ⟨rfl, rfl, rfl, rfl, rfl⟩ rfl rfl rfl rfl rfl (by kernel_rfl) Tryd.func4 (by kernel_rfl)
    (of_decide_eq_true (by kernel_rfl)) (by unfold Func.isWrapper; first | (rw [if_pos (by decide +kernel)]; kernel_rfl) | (rw [if_neg (by decide +kernel)]; exact ⟨rfl, rfl⟩))
    (fun os started H enc _ => lifted os started H enc)
theorem card : Claim7.holds Tryd.pinned (.plain (OpenSpec.ofChange Rows.prefixReadsSpec)) Rows.prefixReadsCard :=
  Claim7.holds_tied_plain_at .later [] [.data, .data, .data] true (true, "99f48ac142fb8160a383948506df205cf7e87e3fed5a7f28b0a4a6954dfb29c2") false
    over (fun _ h => by cases h) (by kernel_rfl) (fun _ h => by cases h) prefixReads_row_tie rfl ⟨rfl, rfl⟩ (by kernel_rfl) rfl
    (fun f fn hf hfn => by
      obtain rfl : f = 4 := Option.some.inj ((show Tryd.prog.funcNamed Rows.prefixReadsRow.func = some 4 by kernel_rfl).symm.trans hf) |>.symm
      obtain rfl : fn = Tryd.f4 := (Option.some.inj (Tryd.func4.symm.trans hfn)).symm
      exact ⟨by kernel_rfl, fun j t ht => by
        rw [Tryd.params4] at ht
        have hm : t ∈ [9, 4, 9, 3] := by simpa using Array.mem_of_getElem? ht
        have hall : ([9, 4, 9, 3].all fun u => !Tryd.prog.wantsStandIn u) = true := by kernel_rfl
        exact (show Tryd.prog.wantsStandIn t = false by simpa using List.all_eq_true.1 hall t hm)⟩)
    (by kernel_rfl)
end Go.Proofs.YtabniphnmlbkfaaDoor.LPrefixReads

namespace Go.Proofs.YtabniphnmlbkfaaDoor
theorem prefixReads_holds : Rows.PrefixReadsCardSaid := LPrefixReads.card
#print axioms prefixReads_holds
end Go.Proofs.YtabniphnmlbkfaaDoor

