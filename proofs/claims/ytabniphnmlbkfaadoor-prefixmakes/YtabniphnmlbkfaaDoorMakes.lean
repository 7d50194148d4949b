/- Proved: PrefixMakes: of an address each shorter prefix contains each longer one; its bits are the address's. Condition: none of our own: the listed tables start as the program's text lays them. -/
import Derived.Test.YtabniphnmlbkfaaDoorP5
import Derived.SizedLaws
namespace Go.Proofs.YtabniphnmlbkfaaDoor.LPrefixMakes
open Go.RowKit

theorem andI (c r : Nat) (hc : c < 256) : bits .and .i64 (wrap64 ((c : Int) / 2 ^ r)) 1 = ((c / 2 ^ r % 2 : Nat) : Int) := and_int c r hc
theorem comm_all (l m : List UInt8) (n : Nat) (h : ∀ j, j < n → bitOf l j = bitOf m j) : comm l m n 0 = n := by
  have := comm_run l m n 0 0 (fun j hj => by rw [Nat.zero_add]; exact h j hj)
  rw [Nat.add_zero, Nat.zero_add, comm] at this
  exact this
theorem cut_right (s : Bool) (L : List UInt8) (a : Nat) (ha : a ≤ 8 * sizeN s) : rightP ⟨s, cutL L a, a⟩ := by
  have := sizeN_le s
  refine ⟨by simp, by simp only; omega, ?_⟩
  simp only [Int.toNat_natCast]
  exact cutL_tail L a (by omega)
theorem cut_common (s : Bool) (L : List UInt8) (a b : Nat) (ha : a ≤ 8 * sizeN s) (hb : b ≤ 8 * sizeN s) : commonZ ⟨s, cutL L a, a⟩ ⟨s, cutL L b, b⟩ = ((min a b : Nat) : Int) := by
  have := sizeN_le s
  unfold commonZ
  rw [if_pos ⟨rfl, cut_right s L a ha, cut_right s L b hb⟩]
  simp only
  rw [show (min (a : Int) (b : Int)).toNat = min a b by omega, comm_all]
  intro j hj
  rw [cutL_bit L a j (by omega) (by omega), cutL_bit L b j (by omega) (by omega), if_pos (by omega), if_pos (by omega)]
theorem cut_has (s : Bool) (L : List UInt8) (a b : Nat) (ha : a ≤ 8 * sizeN s) (hb : b ≤ 8 * sizeN s) : hasB ⟨s, cutL L a, a⟩ ⟨s, cutL L b, b⟩ = decide (a ≤ b) := by
  unfold hasB
  rw [decide_eq_decide, cut_common s L a b ha hb]
  constructor
  · rintro ⟨_, _, h⟩
    simp only at h
    omega
  · intro h
    refine ⟨cut_right s L a ha, cut_right s L b hb, ?_⟩
    simp only
    omega
theorem cut_le (s : Bool) (L : List UInt8) (a b : Nat) (ha : a ≤ 8 * sizeN s) (hb : b ≤ 8 * sizeN s) (h : a ≤ b) : cmpP ⟨s, cutL L a, a⟩ ⟨s, cutL L b, b⟩ ≤ 0 := by
  have h1 : hasB ⟨s, cutL L a, a⟩ ⟨s, cutL L b, b⟩ = true := by rw [cut_has s L a b ha hb]; simpa using h
  rw [cmp_toP _ _ (cutL_len _ _) (cutL_len _ _)]
  exact X.has_le _ _ ((has_toP _ _ (cutL_len _ _) (cutL_len _ _)).1 h1)

theorem index_str (l : List UInt8) (k : Nat) (h : k / 8 < l.length) (w : World) : (Instr.index 9 (.string ⟨l.toArray⟩) (.int .i64 ((k : Int) / 8))).run Tryd.prog w = .ok (.int .u8 ((l[k / 8]'h).toNat : Nat)) w := by
  have h1 : (k : Int) / 8 = ((k / 8 : Nat) : Int) := by omega
  have h2 : ((k / 8 : Nat) : Int) < (l.length : Int) := by omega
  have hge : ∀ hh, (({ data := l.toArray } : ByteArray)[k / 8]'hh) = l[k / 8] := fun _ => rfl
  rw [h1]
  generalize k / 8 = i at *
  go_simp
def MBRel (W : World) (a : Nat) (i : Value) (wr : World) : Prop := ∃ k : Nat, i = .int .i64 k ∧ k ≤ a ∧ Same W wr

set_option maxRecDepth 100000 in
set_option maxHeartbeats 8000000 in
theorem good (six : Bool) (addr : List UInt8) (a b : Nat) (w : World) (had : addr.length = sizeN six) (ha : a ≤ 8 * sizeN six) (hb : b ≤ 8 * sizeN six) (ht : Tab w) : Calls Tryd.prog 7 #[.bool six, .string ⟨addr.toArray⟩, .int .i64 a, .int .i64 b] w fun e w' => e = .returned (.bool true) ∧ Same w w' := by
  have hsx := sizeN_le six
  have fa : makeP six addr a = some ⟨six, cutL (padL addr) a, a⟩ := by
    unfold makeP
    rw [if_pos ⟨had, by simp [fitsB]; omega⟩, Int.toNat_natCast]
  have fb : makeP six addr b = some ⟨six, cutL (padL addr) b, b⟩ := by
    unfold makeP
    rw [if_pos ⟨had, by simp [fitsB]; omega⟩, Int.toNat_natCast]
  have HMa := Lib.hid (make_ok six addr a _ fa)
  have HMb := Lib.hid (make_ok six addr b _ fb)
  have hP : (⟨six, cutL (padL addr) a, a⟩ : Px).addr.length = 16 := cutL_len _ _
  have hQ : (⟨six, cutL (padL addr) b, b⟩ : Px).addr.length = 16 := cutL_len _ _
  have HHA := Lib.hid (contains _ _ hP hQ)
  have HCO := Lib.hid (common _ _ hP hQ)
  have HCM := Lib.hid (compare _ _ hP hQ)
  rw [cut_has six _ a b ha hb] at HHA
  rw [cut_common six _ a b ha hb] at HCO
  have HLE := Lib.hid (cut_le six (padL addr) a b ha hb)
  have HBT := Lib.hid (fun i : Nat => bit ⟨six, cutL (padL addr) a, a⟩ hP i)
  have HBZ := Lib.hid (fun (i : Nat) (hi : i < a) => show bitZ ⟨six, cutL (padL addr) a, a⟩ i = ((bitOf (padL addr) i : Nat) : Int) by
    unfold bitZ
    rw [if_pos ⟨by omega, by simp only; omega, cut_right six _ a ha⟩, Int.toNat_natCast]
    simp only
    rw [cutL_bit _ a i (by omega) (by omega), if_pos hi])
  have hlen : (⟨six, cutL (padL addr) a, a⟩ : Px).len = a := rfl
  generalize (⟨six, cutL (padL addr) a, a⟩ : Px) = P at *
  generalize (⟨six, cutL (padL addr) b, b⟩ : Px) = Q at *
  generalize cmpP P Q = vc at *
  have HAW := Lib.hid awake
  have HT := Lib.hid ht
  have HLN := Lib.hid hlen
  obtain ⟨hz, hi⟩ := zero_of_info info24
  obtain ⟨n2, hn2⟩ : ∃ n, n = 18 := ⟨18, rfl⟩
  have hsz2 : ∀ w, (Go.sizeOf 24).run Tryd.prog w = .ok n2 w := fun w => by rw [hn2]; exact Tryd.sizeOf24 w
  have hsP : (pc P).size = n2 := by rw [hn2]; exact pc_size P hP
  have hsQ : (pc Q).size = n2 := by rw [hn2]; exact pc_size Q hQ
  have HN := Lib.hid hn2
  clear hn2 hi ht fa fb hlen
  go_enter Tryd.func7, Tryd.ntmps7
  go_wp2_with fail
  refine (HMa.out _).mono ?_
  rintro e w1 ⟨rfl, b1⟩
  obtain ⟨w2, st2, hp2, s2⟩ := new_at w1 P hP
  have c2 := b1.trans s2
  go_wp2_with fail
  refine (HMb.out _).mono ?_
  rintro e w3 ⟨rfl, b3⟩
  obtain ⟨w4, st4, hq4, s4⟩ := new_at w3 Q hQ
  have b34 := b3.trans s4
  have c4 := c2.trans b34
  have hp4 := hp2.mono b34
  clear st2 s2 hp2 b1 c2 b3 s4 b34
  go_wp2_with fail
  refine (HAW.out _ (HT.out.mono c4)).mono ?_
  rintro e w5 ⟨rfl, b5⟩
  have HP5 := Lib.hid (hp4.mono b5)
  have HQ5 := Lib.hid (hq4.mono b5)
  have HS5 := Lib.hid (c4.trans b5)
  have e17 := HP5.out.bits
  rw [HLN.out] at e17
  clear st4 hp4 hq4 c4 b5 hz
  go_wp2_with fail
  go_loopw [41] (fun i wr => MBRel w5 a i wr) (fun i _ => 129 - (intOf i).toNat)
  case atStart => exact ⟨0, rfl, by omega, Same.refl _⟩
  case round =>
    obtain ⟨k, rfl, hk, hsame⟩ := hrel
    have HPr := Lib.hid (HP5.out.mono hsame)
    have HQr := Lib.hid (HQ5.out.mono hsame)
    have HSr := Lib.hid (HS5.out.trans hsame)
    have HSk := Lib.hid hsame
    clear hsame e17
    by_cases hk2 : k < a
    · have hidx : k / 8 < addr.length := by omega
      have hi2 : (k : Int) / 8 < (sizeN six : Int) := by omega
      have hbt := HBT.out k (by omega)
      rw [HBZ.out k hk2, pad_bit addr k hidx (by omega)] at hbt
      have Hbt := Lib.hid hbt
      have hge2 : ∀ h, (({ data := addr.toArray } : ByteArray)[k / 8]'h) = addr[k / 8] := fun _ => rfl
      have hcl : (addr[k / 8]'hidx).toNat < 256 := UInt8.toNat_lt _
      have hx := andI (addr[k / 8]'hidx).toNat (7 - k % 8) hcl
      have hix := fun w => index_str addr k hidx w
      have k1 : ∀ u : SW wr, (loadCellsFrom ⟨w1.heap.size, 0, none⟩ 0 n2 #[]).run Tryd.prog u.1 = .ok (pc P) u.1 := fun u => (HPr.out.mono u.2).whole HN.out
      clear hbt
      go_wp2_with fail
      refine wp_region_same (Same.refl _) (by kernel_rfl) (by kernel_rfl) ?_
      repeat (first | go_big_quiet_step (exact Hbt.out.at _) | quiet_step (exact Hbt.out.at _))
      refine wpQuiet_nil ?_
      rintro w6 ⟨⟨w7, b7⟩, rfl⟩
      go_wp2
      go_roundw
      case rel => exact ⟨k + 1, by go_num, by omega, HSk.out.trans b7⟩
      case measure => simp [intOf]; omega
    · have g1 := HPr.out.whole HN.out
      have g2 := HQr.out.whole HN.out
      go_wp2_with fail
      refine (HHA.out _).mono ?_
      rintro e w6 ⟨rfl, b6⟩
      have g1 := (HPr.out.mono b6).whole HN.out
      have g2 := (HQr.out.mono b6).whole HN.out
      by_cases hab : a ≤ b
      · have hab2 : (a : Int) ≤ b := by omega
        rw [show ((min a b : Nat) : Int) = a by omega] at HCO
        rw [decide_eq_true hab]
        clear hk hk2 ha hb
        generalize (a : Int) = x at *
        generalize (b : Int) = y at *
        have hnl : ¬ y < x := by omega
        have hmin : ∀ w ts t, (Builtin.min_ ts t #[.int .i64 x, .int .i64 y]).run Tryd.prog w = .ok (.int .i64 x) w := fun w ts t => by rw [run_min_int2, if_neg hnl]
        go_wp2_with fail
        refine (HCO.out _).mono ?_
        rintro e w7 ⟨rfl, b7⟩
        have g1 := (HPr.out.mono (b6.trans b7)).whole HN.out
        have g2 := (HQr.out.mono (b6.trans b7)).whole HN.out
        go_wp2_with fail
        refine (HCM.out _).mono ?_
        rintro e w8 ⟨rfl, b8⟩
        go_wp2
        go_ret
        exact ⟨congrArg (fun b => Ending.returned (Value.bool b)) (show (decide (y < x) || decide (vc ≤ 0)) = true by simp [HLE.out hab]), ((HSr.out.trans b6).trans b7).trans b8⟩
      · have hab2 : (b : Int) < a := by omega
        rw [show ((min a b : Nat) : Int) = b by omega] at HCO
        rw [decide_eq_false hab]
        clear hk hk2 ha hb
        generalize (a : Int) = x at *
        generalize (b : Int) = y at *
        have hmin : ∀ w ts t, (Builtin.min_ ts t #[.int .i64 x, .int .i64 y]).run Tryd.prog w = .ok (.int .i64 y) w := fun w ts t => by rw [run_min_int2, if_pos hab2]
        go_wp2_with fail
        refine (HCO.out _).mono ?_
        rintro e w7 ⟨rfl, b7⟩
        go_wp2
        go_ret
        exact ⟨congrArg (fun b => Ending.returned (Value.bool b)) (show (!decide (x ≤ y)) = true by simp; omega), (HSr.out.trans b6).trans b7⟩

theorem make_any (s : Bool) (l : List UInt8) (n : Int) (hl : l.length ≤ 140737488351232) : ∃ (M : Px) (G : Int), M.addr.length = 16 ∧ Gives Tryd.prog 26 #[.bool s, .string ⟨l.toArray⟩, .int .i64 n] (.tuple #[.agg (pc M), .int .i64 G]) ∧ ((G = 0 ∧ l.length = sizeN s ∧ fitsB s n = true) ∨ G = 1) := by
  cases h : makeP s l n with
  | none => exact ⟨zeroP, 1, rfl, make_no s l n (by omega) h, .inr rfl⟩
  | some p => exact ⟨p, 0, by rw [(makeP_some h).2.2]; exact cutL_len _ _, make_ok s l n p h, .inl ⟨rfl, (makeP_some h).1, (makeP_some h).2.1⟩⟩

set_option maxRecDepth 100000 in
set_option maxHeartbeats 4000000 in
theorem walk (six : Bool) (addr : List UInt8) (a b : Int) (w : World) (had : addr.length ≤ 140737488351232) (_ : -9223372036854775808 ≤ a ∧ a ≤ 9223372036854775807) (_ : -9223372036854775808 ≤ b ∧ b ≤ 9223372036854775807) (ht : Tab w) : Calls Tryd.prog 7 #[.bool six, .string ⟨addr.toArray⟩, .int .i64 a, .int .i64 b] w fun e w' => e = .returned (.bool true) ∧ Same w w' := by
  obtain ⟨P, G, hP, ma, hG⟩ := make_any six addr a had
  obtain ⟨Q, F, hQ, mb, hF⟩ := make_any six addr b had
  by_cases hgood : G = 0 ∧ F = 0
  · obtain ⟨rfl, rfl⟩ := hgood
    rcases hG with ⟨_, h1, h2⟩ | h
    · rcases hF with ⟨_, _, h3⟩ | h
      · obtain ⟨x, rfl⟩ : ∃ x : Nat, a = x := ⟨a.toNat, by simp [fitsB] at h2; omega⟩
        obtain ⟨y, rfl⟩ : ∃ y : Nat, b = y := ⟨b.toNat, by simp [fitsB] at h3; omega⟩
        exact good six addr x y w h1 (by simp [fitsB] at h2; omega) (by simp [fitsB] at h3; omega) ht
      · omega
    · omega
  · have HMa := Lib.hid ma
    have HMb := Lib.hid mb
    have HAW := Lib.hid awake
    have HT := Lib.hid ht
    obtain ⟨hz, hi⟩ := zero_of_info info24
    obtain ⟨n2, hn2⟩ : ∃ n, n = 18 := ⟨18, rfl⟩
    have hsz2 : ∀ w, (Go.sizeOf 24).run Tryd.prog w = .ok n2 w := fun w => by rw [hn2]; exact Tryd.sizeOf24 w
    have hsP : (pc P).size = n2 := by rw [hn2]; exact pc_size P hP
    have hsQ : (pc Q).size = n2 := by rw [hn2]; exact pc_size Q hQ
    clear hn2 hi ht ma mb
    have hGF : G = 1 ∨ (G = 0 ∧ F = 1) := by omega
    rcases hGF with rfl | ⟨rfl, rfl⟩
    all_goals
      clear hG hF hgood
      go_enter Tryd.func7, Tryd.ntmps7
      go_wp2_with fail
      refine (HMa.out _).mono ?_
      rintro e w1 ⟨rfl, b1⟩
      obtain ⟨w2, st2, hp2, s2⟩ := new_at w1 P hP
      have c2 := b1.trans s2
      go_wp2_with fail
      refine (HMb.out _).mono ?_
      rintro e w3 ⟨rfl, b3⟩
      obtain ⟨w4, st4, hq4, s4⟩ := new_at w3 Q hQ
      have c4 := c2.trans (b3.trans s4)
      go_wp2_with fail
      refine (HAW.out _ (HT.out.mono c4)).mono ?_
      rintro e w5 ⟨rfl, b5⟩
      go_wp2_with fail
      refine (HAW.out _ (HT.out.mono (c4.trans b5))).mono ?_
      rintro e w6 ⟨rfl, b6⟩
      go_wp2
      go_ret
      exact ⟨rfl, (c4.trans b5).trans b6⟩

open Go.ChangeShapes Go.WideShapes Go.ChangeAt
set_option maxRecDepth 100000 in
theorem lifted (os : Os) (started : os.Started) (H : Type) (enc : TypeId × Value → H) :
    ReturnsInHanded {} Tryd.checked os 7 .any (fun w args => (Rows.prefixMakesSpec.pre enc Tryd.prog Tryd.f7 [] false w args ∧ laidMetH Tryd.prog laid3 w) ∧ sizedMet enc Tryd.prog Tryd.f7 (OpenSpec.ofChange Rows.prefixMakesSpec) false w args)
      (Rows.prefixMakesSpec.post enc Tryd.prog Tryd.f7 false true false false) := by
  refine returnsInHanded_of_change_and (C := Tryd.checked) (X := fun w _ => laidMetH Tryd.prog laid3 w) (fun _ _ _ hh h => h.of_heap hh) own started (by kernel_rfl) Tryd.func7
    (ChangeSpec.witness_shaped (enc := enc) (C := Tryd.checked) (os := os) (X := fun w _ => laidMetH Tryd.prog laid3 w) false (World.doorLaid Tryd.prog 400 os) #[.bool false, .string ⟨#[]⟩, .int .i64 0, .int .i64 0] 8 rfl (World.shaped_of_RefB (by kernel_rfl) (by kernel_rfl)) (by kernel_rfl) (by kernel_rfl) (by kernel_rfl) (door_met os _)) ?_
  intro W base args ds gs before hval0 hW _ hsz0 hL _
  have hval : ∀ (j : Nat) t v, Tryd.f7.params[j]? = some t → args[j]? = some v → Value.okWide Tryd.prog W .any base t v := hval0
  have hW' := hW
  obtain ⟨p, q, hA0, hV, rfl, hfz, hnd⟩ := hW
  have hA : DataW.TrodAll enc Tryd.prog W 0 (fun _ => true) true Tryd.f7.params.toList args.toList ds p := hA0
  have hsz : (DataW.weightsEach Tryd.prog (Tryd.f7.params.toList ++ Rows.prefixMakesSpec.plain.varTypes Tryd.prog) (ds ++ gs)).all (· ≤ reachBytes) = true := hsz0
  rw [Tryd.params7] at hA hval hsz
  obtain ⟨v0, vs0, d0, ds0, p0, q0, hargs, rfl, rfl, h0, r0⟩ := trodAll_cons hA
  obtain ⟨v1, vs1, d1, ds1, p1, q1, rfl, rfl, rfl, h1, r1⟩ := trodAll_cons r0
  obtain ⟨v2, vs2, d2, ds2, p2, q2, rfl, rfl, rfl, h2, r2⟩ := trodAll_cons r1
  obtain ⟨v3, vs3, d3, ds3, p3, q3, rfl, rfl, rfl, h3, r3⟩ := trodAll_cons r2
  obtain ⟨rfl, rfl, rfl⟩ := trodAll_nil r3
  obtain rfl : args = #[v0, v1, v2, v3] := by cases args; simp_all
  obtain ⟨rfl, rfl⟩ := trodVars_none hV
  have k0 := h0
  have lt0 : ∀ x ∈ p0, x.block < W.heap.size := by obtain ⟨m, hm⟩ := k0; exact DataW.trod_lt m _ _ _ hm
  have k1 := h1
  have lt1 : ∀ x ∈ p1, x.block < W.heap.size := by obtain ⟨m, hm⟩ := k1; exact DataW.trod_lt m _ _ _ hm
  have k2 := h2
  have lt2 : ∀ x ∈ p2, x.block < W.heap.size := by obtain ⟨m, hm⟩ := k2; exact DataW.trod_lt m _ _ _ hm
  have k3 := h3
  have lt3 : ∀ x ∈ p3, x.block < W.heap.size := by obtain ⟨m, hm⟩ := k3; exact DataW.trod_lt m _ _ _ hm
  obtain ⟨a0, rfl, _, _⟩ := open_bool Tryd.underlying4 (hval 0 4 v0 rfl rfl) h0
  obtain ⟨a1, rfl, hd1, _, w1⟩ := Go.ChangeMaps.open_string Tryd.underlying9 (hval 1 9 v1 rfl rfl) h1
  have z1 : a1.data.toList.length ≤ 140737488351232 := sized_string hsz (j := 1) (t := 9) rfl (by rw [hd1]; rfl)
  obtain ⟨a2, rfl, _, _, w2⟩ := open_int Tryd.underlying3 (hval 2 3 v2 rfl rfl) h2
  obtain ⟨a3, rfl, _, _, w3⟩ := open_int Tryd.underlying3 (hval 3 3 v3 rfl rfl) h3
  clear hA0 hval0
  refine (walk a0 a1.data.toList a2 a3 W z1 (bounds_i64 w2) (bounds_i64 w3) (of_laid hL)).mono fun e W' ⟨he, bel0⟩ => ?_
  subst he
  have bel : Below W.heap.size W W' := bel0
  exact ⟨_, rfl, _, _, _, [], _, [], hW', trodAll_mk1 (shut_bool Tryd.underlying4 _), (trodAll_cons_mk (Below.trod laidOut (by kernel_rfl) (of_decide_eq_true (by kernel_rfl)) k0 bel lt0) (trodAll_cons_mk (Below.trod laidOut (by kernel_rfl) (of_decide_eq_true (by kernel_rfl)) k1 bel lt1) (trodAll_cons_mk (Below.trod laidOut (by kernel_rfl) (of_decide_eq_true (by kernel_rfl)) k2 bel lt2) (trodAll_cons_mk (Below.trod laidOut (by kernel_rfl) (of_decide_eq_true (by kernel_rfl)) k3 bel lt3) trodAll_mk0)))), rfl, bel.frame _, fun h => by cases h⟩

theorem over : Rows.prefixMakesRow.holds Tryd.pinned (OpenSpec.ofChange Rows.prefixMakesSpec) :=
  OpenClaim.holds_of_wide 7 Tryd.f7 rfl rfl rfl rfl rfl rfl rfl ⟨rfl, rfl, rfl, rfl, rfl⟩ rfl rfl rfl rfl rfl (by kernel_rfl) Tryd.func7 (by kernel_rfl)
    (of_decide_eq_true (by kernel_rfl)) (by unfold Func.isWrapper; first | (rw [if_pos (by decide +kernel)]; kernel_rfl) | (rw [if_neg (by decide +kernel)]; exact ⟨rfl, rfl⟩))
    (fun os started H enc _ => lifted os started H enc)
theorem card : Claim7.holds Tryd.pinned (.plain (OpenSpec.ofChange Rows.prefixMakesSpec)) Rows.prefixMakesCard :=
  Claim7.holds_tied_plain_at .later [] [.data, .data, .data] true (true, "99f48ac142fb8160a383948506df205cf7e87e3fed5a7f28b0a4a6954dfb29c2") false
    over (fun _ h => by cases h) (by kernel_rfl) (fun _ h => by cases h) prefixMakes_row_tie rfl ⟨rfl, rfl⟩ (by kernel_rfl) rfl
    (fun f fn hf hfn => by
      obtain rfl : f = 7 := Option.some.inj ((show Tryd.prog.funcNamed Rows.prefixMakesRow.func = some 7 by kernel_rfl).symm.trans hf) |>.symm
      obtain rfl : fn = Tryd.f7 := (Option.some.inj (Tryd.func7.symm.trans hfn)).symm
      exact ⟨by kernel_rfl, fun j t ht => by
        rw [Tryd.params7] at ht
        have hm : t ∈ [4, 9, 3, 3] := by simpa using Array.mem_of_getElem? ht
        have hall : ([4, 9, 3, 3].all fun u => !Tryd.prog.wantsStandIn u) = true := by kernel_rfl
        exact (show Tryd.prog.wantsStandIn t = false by simpa using List.all_eq_true.1 hall t hm)⟩)
    (by kernel_rfl)
end Go.Proofs.YtabniphnmlbkfaaDoor.LPrefixMakes

namespace Go.Proofs.YtabniphnmlbkfaaDoor
theorem prefixMakes_holds : Rows.PrefixMakesCardSaid := LPrefixMakes.card
#print axioms prefixMakes_holds
end Go.Proofs.YtabniphnmlbkfaaDoor

