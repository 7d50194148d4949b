/- Proved: what the library's IndexFunc and DeleteFunc answer over routes; what digest's Part and others answer. Condition: lists are short enough for memory. -/
import Derived.Test.YtfikdeobejhblaaDd
import Derived.Test.YtfikdeobejhblaaRp
namespace Go.Proofs.Ytfikdeobejhblaa
open Go.RowKit

/-- A function value that tells some routes from others, in worlds of a class. -/
structure Pr (g : Nat) (cp : Value) (p : Rt → Bool) (C : World → Prop) : Prop where
  enters : ∀ args w, (callFunc g args).run Try.prog w = .ok (.enter g args) w
  call : ∀ (w : World) (r : Rt), C w → Calls Try.prog g #[.agg (rc r), cp] w fun e w' => e = .returned (.bool (p r)) ∧ Keep w w'
  keep : ∀ w w', C w → Keep w w' → C w'
def idx (p : Rt → Bool) : List Rt → Nat
  | [] => 0
  | r :: l => if p r then 0 else idx p l + 1
def ixZ (p : Rt → Bool) (l : List Rt) : Int := if idx p l < l.length then (idx p l : Int) else -1
theorem idx_at {p : Rt → Bool} : ∀ {l : List Rt} {k : Nat} {x : Rt}, (∀ r ∈ l.take k, p r = false) → l[k]? = some x → p x = true → idx p l = k
  | [], _, _, _, hx, _ => by simp at hx
  | a :: l, 0, x, _, hx, hp => by
    simp at hx
    subst hx
    simp [idx, hp]
  | a :: l, k + 1, x, h, hx, hp => by
    have h1 := h a (by simp)
    have h2 := idx_at (l := l) (k := k) (x := x) (fun r hr => h r (by simp [hr])) (by simpa using hx) hp
    simp [idx, h1, h2]
theorem idx_no {p : Rt → Bool} : ∀ {l : List Rt}, (∀ r ∈ l, p r = false) → idx p l = l.length
  | [], _ => rfl
  | a :: l, h => by
    have h1 := h a (by simp)
    have h2 := idx_no (l := l) (fun r hr => h r (by simp [hr]))
    simp [idx, h1, h2]
theorem idx_take (p : Rt → Bool) : ∀ (l : List Rt), ∀ r ∈ l.take (idx p l), p r = false
  | [], r, h => by simp at h
  | a :: l, r, h => by
    cases hp : p a
    · simp only [idx, hp, Bool.false_eq_true, if_false, List.take_succ_cons, List.mem_cons] at h
      rcases h with rfl | h
      · exact hp
      · exact idx_take p l r h
    · simp [idx, hp] at h
theorem idx_hit (p : Rt → Bool) : ∀ (l : List Rt), idx p l < l.length → ∃ x, l[idx p l]? = some x ∧ p x = true
  | [], h => by simp at h
  | a :: l, h => by
    cases hp : p a
    · simp only [idx, hp, Bool.false_eq_true, if_false] at h ⊢
      obtain ⟨x, hx, hpx⟩ := idx_hit p l (by simpa using h)
      exact ⟨x, by simpa using hx, hpx⟩
    · exact ⟨a, by simp [idx, hp], hp⟩
theorem idx_all {p : Rt → Bool} : ∀ {l : List Rt}, ¬ idx p l < l.length → ∀ r ∈ l, p r = false
  | [], _, r, hr => by simp at hr
  | a :: l, h, r, hr => by
    cases hp : p a
    · simp only [idx, hp, Bool.false_eq_true, if_false, List.length_cons] at h
      rcases List.mem_cons.1 hr with rfl | hr
      · exact hp
      · exact idx_all (l := l) (by omega) r hr
    · simp [idx, hp] at h
def IxRel (W : World) (p : Rt → Bool) (l : List Rt) (i : Value) (wr : World) : Prop := ∃ k : Nat, i = .int .i64 k ∧ k ≤ l.length ∧ (∀ r ∈ l.take k, p r = false) ∧ Keep W wr

set_option maxRecDepth 100000 in
set_option maxHeartbeats 600000 in
theorem indexFunc {f : Nat} {cp : Value} {p : Rt → Bool} {C : World → Prop} (hP : Pr f cp p C) (v : Value) (l : List Rt) (w : World) (h : Cells rl w v l) (hl : l.length ≤ 1000000) (hc : C w) : Calls Try.prog 84 #[v, .func (.func f) #[] #[cp]] w fun e w' => e = .returned (.int .i64 (ixZ p l)) ∧ Keep w w' := by
  obtain ⟨a, cap, rfl, hc1, hc2⟩ := h.form
  obtain ⟨n, hn⟩ : ∃ n, n = 20 := ⟨20, rfl⟩
  have hsz : ∀ w, (Go.sizeOf 37).run Try.prog w = .ok n w := fun w => by rw [hn]; exact Try.sizeOf37 w
  have hn0 : ¬ n = 0 := by omega
  have HN := Lib.hid hn
  have H := Lib.hid h
  obtain ⟨L, hL⟩ : ∃ n, l.length = n := ⟨_, rfl⟩
  have HL := Lib.hid hL
  rw [hL] at H hc1 hl ⊢
  have he := hP.enters
  have HCL := Lib.hid hP.call
  have HCW := Lib.hid (fun w' (k : Keep w w') => hP.keep w w' hc k)
  clear h hn hL hc hP
  go_enter Try.func84, Try.ntmps84
  go_wp2
  go_loopw [8] (fun i wr => IxRel w p l i wr) (fun i _ => L - (intOf i).toNat)
  case atStart => exact ⟨0, rfl, Nat.zero_le _, by simp, Keep.refl _⟩
  case round =>
    obtain ⟨k, rfl, hkL, ha, hk⟩ := hrel
    rw [HL.out] at hkL
    by_cases hlt : k < L
    · obtain ⟨g, o, cap', e, _, _, _⟩ := (show Cells rl w (.slice a l.length cap) l from by rw [HL.out]; exact H.out).ptr k (by rw [HL.out]; exact hlt)
      rw [HL.out] at e
      simp at e
      obtain ⟨rfl, rfl⟩ := e
      obtain ⟨x, hx⟩ : ∃ x, l[k]? = some x := ⟨_, List.getElem?_eq_getElem (by rw [HL.out]; exact hlt)⟩
      have hcl : Cells rl wr (.slice (some ⟨g, o, none⟩) l.length cap) l := by rw [HL.out]; exact H.out.keep hk
      have d1 := hcl.rt HN.out k x hx
      have HC1 := Lib.hid (HCL.out wr x (HCW.out wr hk))
      have HX := Lib.hid hx
      have HA := Lib.hid ha
      have HK := Lib.hid hk
      clear hcl hx ha hk
      generalize rc x = X at *
      cases hpx : p x
      · rw [hpx] at HC1
        have HPX := Lib.hid hpx
        clear hpx HCL HCW
        go_wp2_with fail
        refine HC1.out.mono ?_
        rintro e w2 ⟨rfl, b2⟩
        have HK2 := Lib.hid (HK.out.trans b2)
        clear b2 d1 HC1
        go_wp2
        go_roundw
        case rel => exact ⟨k + 1, by go_num, by rw [HL.out]; omega, fun r hr => by
          rw [List.take_add_one, HX.out] at hr
          rcases List.mem_append.1 hr with h | h
          · exact HA.out r h
          · simp at h; rw [h]; exact HPX.out, HK2.out⟩
        case measure => simp [intOf]; omega
      · rw [hpx] at HC1
        have HE := Lib.hid (show ixZ p l = k by
          have := idx_at HA.out HX.out hpx
          unfold ixZ
          rw [this, HL.out, if_pos hlt])
        clear hpx HCL HCW
        go_wp2_with fail
        refine HC1.out.mono ?_
        rintro e w2 ⟨rfl, b2⟩
        have HK2 := Lib.hid (HK.out.trans b2)
        clear b2 d1 HC1
        go_wp2
        go_ret
        exact ⟨by rw [HE.out]; rfl, HK2.out⟩
    · have HE := Lib.hid (show ixZ p l = -1 by
        have := idx_no (p := p) (l := l) (fun r hr => ha r (by rw [List.take_of_length_le (by rw [HL.out]; omega)]; exact hr))
        unfold ixZ
        rw [this, if_neg (Nat.lt_irrefl _)])
      have HK := Lib.hid hk
      clear ha hk HCL HCW
      go_wp2
      go_ret
      exact ⟨by rw [HE.out]; rfl, HK.out⟩

/-! ### DeleteFunc -/
/-- What was kept stands at the front, what wasn't looked at where it stood. -/
structure DfI (p : Rt → Bool) (l m : List Rt) (i j : Nat) : Prop where
  len : m.length = l.length
  lt : i < j
  le : j ≤ l.length
  front : m.take i = (l.take j).filter fun r => !p r
  back : m.drop j = l.drop j
theorem DfI.start {p : Rt → Bool} {l : List Rt} (h : idx p l < l.length) : DfI p l l (idx p l) (idx p l + 1) := by
  obtain ⟨x, hx, hp⟩ := idx_hit p l h
  refine ⟨rfl, by omega, h, ?_, rfl⟩
  rw [List.take_add_one, hx, List.filter_append, List.filter_eq_self.2 (fun r hr => by rw [idx_take p l r hr]; rfl)]
  simp [hp]
theorem DfI.skip {p : Rt → Bool} {l m : List Rt} {i j : Nat} (h : DfI p l m i j) {x : Rt} (hx : l[j]? = some x) (hp : p x = true) : DfI p l m i (j + 1) := by
  have hj := (List.getElem?_eq_some_iff.1 hx).1
  refine ⟨h.len, by have := h.lt; omega, hj, ?_, ?_⟩
  · rw [h.front, List.take_add_one, hx, List.filter_append]
    simp [hp]
  · have := congrArg (List.drop 1) h.back
    simpa [List.drop_drop, Nat.add_comm] using this
theorem DfI.keep {p : Rt → Bool} {l m : List Rt} {i j : Nat} (h : DfI p l m i j) {x : Rt} (hx : l[j]? = some x) (hp : p x = false) : DfI p l (m.set i x) (i + 1) (j + 1) := by
  have hj := (List.getElem?_eq_some_iff.1 hx).1
  have hlt := h.lt
  refine ⟨by rw [List.length_set]; exact h.len, by omega, hj, ?_, ?_⟩
  · rw [List.take_add_one, List.take_set_of_le (Nat.le_refl i), h.front, List.getElem?_set_self (by rw [h.len]; omega), List.take_add_one, hx, List.filter_append]
    simp [hp]
  · rw [List.drop_set_of_lt (by omega)]
    have := congrArg (List.drop 1) h.back
    simpa [List.drop_drop, Nat.add_comm] using this
theorem DfI.get {p : Rt → Bool} {l m : List Rt} {i j : Nat} (h : DfI p l m i j) {x : Rt} (hx : l[j]? = some x) : m[j]? = some x := by
  have := congrArg (fun y => y[0]?) h.back
  simpa [hx] using this
theorem DfI.done {p : Rt → Bool} {l m : List Rt} {i : Nat} (h : DfI p l m i l.length) : m.take i = l.filter fun r => !p r := by
  rw [h.front, List.take_length]
theorem zero_rows (n : Nat) : (Builtin.zeroCells (rc zeroR) n).toList = flat rl (List.replicate n zeroR) := by
  unfold Builtin.zeroCells
  rw [rc_size]
  apply List.ext_getElem?
  intro j
  by_cases hj : j < n * 20
  · have hx : (List.replicate n zeroR)[j / 20]? = some zeroR := by rw [List.getElem?_replicate, if_pos (by omega)]
    have h := flat_get rl rl_len _ (j / 20) zeroR hx (j % 20) (by omega)
    rw [show j / 20 * 20 + j % 20 = j by omega] at h
    rw [h]
    have hz : j % 20 < (rl zeroR).length := by rw [rl_len]; omega
    simp only [Array.toList_map, List.getElem?_map, Array.toList_range, List.getElem?_range hj, Option.map_some]
    rw [List.getElem?_eq_getElem hz]
    congr 1
    rw [getElem!_pos (rc zeroR) (j % 20) (by rw [rc_size]; omega)]
    rfl
  · rw [List.getElem?_eq_none (by simp; omega), List.getElem?_eq_none (by rw [flat_len rl rl_len]; simp; omega)]
/-- The last ones are struck out. -/
theorem clear_tail {B : Nat} {w : World} {g n cap : Nat} {m : List Rt} (h : Own 37 20 rl B w (.slice (some ⟨g, 0, none⟩) n cap) m) (hn : m.length = n) (i : Nat) (hi : i < n) (c : Nat) :
    ∃ w', (∀ ty, (Builtin.clear_ #[22] ty #[.slice (some ⟨g, i * 20, none⟩) (n - i) c]).run Try.prog w = .ok (.tuple #[]) w') ∧ Own 37 20 rl B w' (.slice (some ⟨g, 0, none⟩) n cap) (m.take i ++ List.replicate (n - i) zeroR) ∧ Only g w w' := by
  subst hn
  rcases h.2 with ⟨h1, h2⟩ | ⟨g', cap', cur, h1, h2, h3, h4, h5, h6, h7⟩
  · omega
  · simp at h1
    obtain ⟨rfl, rfl⟩ := h1
    have hvl : (flat rl (List.replicate (m.length - i) zeroR)).length = (m.length - i) * 20 := by rw [flat_len rl rl_len, List.length_replicate]
    have hmul : m.length * 20 ≤ cap * 20 := Nat.mul_le_mul_right 20 h4
    have hfit : i * 20 + 0 + (flat rl (List.replicate (m.length - i) zeroR)).length ≤ cur.size := by
      rw [hvl, h6]
      omega
    have hst := run_storeCells_at Try.prog g (i * 20) 37 (flat rl (List.replicate (m.length - i) zeroR)) 0 cur w h3 hfit (flat_one' rl_one _)
    rw [Nat.add_zero, hvl] at hst
    have hz : ∀ w, (zeroValue 37).run Try.prog w = .ok (.agg (rc zeroR)) w := (zero_of_info info34b).1
    have ht : (m.take i ++ List.replicate (m.length - i) zeroR).length = m.length := by simp; omega
    have hrun : ∀ ty, (Builtin.clear_ #[22] ty #[.slice (some ⟨g, i * 20, none⟩) (m.length - i) c]).run Try.prog w = .ok (.tuple #[]) (w.setRow g (cur.toList.take (i * 20) ++ flat rl (List.replicate (m.length - i) zeroR) ++ cur.toList.drop (i * 20 + (m.length - i) * 20)).toArray) := fun ty => by
      obtain ⟨q, hq⟩ : ∃ q, m.length - i = q + 1 := ⟨m.length - i - 1, by omega⟩
      have hzc : (Builtin.zeroCells (Value.agg (rc zeroR)).cells (q + 1)).toList = flat rl (List.replicate (q + 1) zeroR) := zero_rows (q + 1)
      rw [hq] at hst ⊢
      simp [Builtin.clear_, run_underlying elR.under, hz, hzc, hst]
    refine ⟨_, hrun, ⟨?_, .inr ⟨g, cap, _, by rw [ht], h2, block_row h3 _, by rw [ht]; exact h4, h5, ?_, ?_⟩⟩, ?_⟩
    · rw [flat_len rl rl_len]
    · simp only [List.size_toArray, List.length_append, List.length_take, List.length_drop, Array.length_toList, hvl, h6]
      omega
    · have hcl : cur.toList.length = cap * 20 := by rw [Array.length_toList, h6]
      rw [ht, flat_append, flat_take rl rl_len m i |>.symm, ← h7]
      rw [List.take_take, Nat.min_eq_left (by omega)]
      simp only
      have e1 : (cur.toList.take (i * 20) ++ flat rl (List.replicate (m.length - i) zeroR)).length = m.length * 20 := by rw [List.length_append, List.length_take, hvl, hcl]; omega
      rw [List.take_append, e1, Nat.sub_self, List.take_zero, List.append_nil, List.take_of_length_le (by omega)]
    · refine ⟨rfl, rfl, rfl, by simp [World.setRow], fun j _ hj => ?_⟩
      simp only [World.setRow, Array.getElem?_modify]
      rw [if_neg (Ne.symm hj)]
def DfRel (W : World) (B g n cap : Nat) (p : Rt → Bool) (l : List Rt) (iv jv : Value) (wr : World) : Prop := ∃ (i j : Nat) (m : List Rt), iv = .int .i64 i ∧ jv = .int .i64 j ∧ DfI p l m i j ∧ Own 37 20 rl B wr (.slice (some ⟨g, 0, none⟩) n cap) m ∧ Only g W wr

set_option maxRecDepth 100000 in
set_option maxHeartbeats 1000000 in
theorem deleteFunc {f : Nat} {cp : Value} {p : Rt → Bool} {C : World → Prop} (hP : Pr f cp p C) (v : Value) (l : List Rt) (B : Nat) (W w : World) (ho : Own 37 20 rl B w v l) (hl : l.length ≤ 1000000) (hW : Keep W w) (hB : W.heap.size ≤ B) (hc : C w) (hO : ∀ g w w', B ≤ g → C w → Only g w w' → C w') :
    Calls Try.prog 57 #[v, .func (.func f) #[] #[cp]] w fun e w' => ∃ v', e = .returned v' ∧ Row rl 37 w' v' (l.filter fun r => !p r) ∧ Keep W w' := by
  have HI := Lib.hid (indexFunc hP v l w (ho.row elR).cells hl hc)
  obtain ⟨n2, hn2⟩ : ∃ n, n = 20 := ⟨20, rfl⟩
  have hsz2 : ∀ w, (Go.sizeOf 37).run Try.prog w = .ok n2 w := fun w => by rw [hn2]; exact Try.sizeOf37 w
  have hn20 : ¬ n2 = 0 := by omega
  have HN2 := Lib.hid hn2
  obtain ⟨hz, hi⟩ := zero_of_info info34b
  have hzs : (rc zeroR).size = n2 := by rw [hn2]; exact rc_size _
  have he := hP.enters
  have HCL := Lib.hid hP.call
  have HCK := Lib.hid hP.keep
  have HCO := Lib.hid hO
  by_cases hix : idx p l < l.length
  · rcases ho.2 with ⟨_, h0⟩ | ⟨g, cap, cur, rfl, hBg, h3, h4, h5, h6, h7⟩
    · omega
    · have HE := Lib.hid (DfI.start hix)
      have hiz : ixZ p l = (idx p l : Nat) := by unfold ixZ; rw [if_pos hix]
      rw [hiz] at HI
      generalize idx p l = i0 at *
      obtain ⟨n, hn⟩ : ∃ n, l.length = n := ⟨_, rfl⟩
      have HL := Lib.hid hn
      have HOW := Lib.hid ho
      have HC := Lib.hid hc
      have HWK := Lib.hid hW
      have hcap : cap ≤ 9223372036854775807 := by unfold maxLen at h5; omega
      have hne : ((i0 : Int) == -1) = false := beq_eq_false_iff_ne.2 (by omega)
      rw [hn] at HI HOW h4 hl hix ⊢
      have HBG := Lib.hid hBg
      have HCM := Lib.hid h5
      clear hP hO ho hc hW hBg h3 h5 h6 h7 hiz hn hn2 hi
      go_enter Try.func57, Try.ntmps57
      go_wp2_with fail
      refine HI.out.mono ?_
      rintro e w2 ⟨rfl, b2⟩
      have HC2 := Lib.hid (HCK.out _ _ HC.out b2)
      have HO2 := Lib.hid (HOW.out.keep b2)
      have HK2 := Lib.hid (HWK.out.trans b2)
      clear b2 HI HOW HC
      go_wp2
      go_loopw [5, 6] (fun iv jv wr => DfRel w2 B g n cap p l iv jv wr) (fun _ jv _ => n - (intOf jv).toNat)
      case atStart => exact ⟨i0, i0 + 1, l, rfl, by go_num, HE.out, HO2.out, Only.refl _ _⟩
      case round =>
        clear HE HO2 hix hne
        obtain ⟨i, j, m, rfl, rfl, hd, ho, hq⟩ := hrel
        have hjn := hd.le
        have hij := hd.lt
        rw [HL.out] at hjn
        have HD := Lib.hid hd
        have HO := Lib.hid ho
        have HQ := Lib.hid hq
        have HML := Lib.hid (show m.length = n by rw [hd.len, HL.out])
        clear hd ho hq
        by_cases hlt : j < n
        · obtain ⟨x, hx⟩ : ∃ x, l[j]? = some x := ⟨_, List.getElem?_eq_getElem (by rw [HL.out]; exact hlt)⟩
          have hmx := HD.out.get hx
          have hcl : Cells rl wr (.slice (some ⟨g, 0, none⟩) m.length cap) m := by rw [HML.out]; exact (HO.out.row elR).cells
          have d1 := hcl.rt HN2.out j x hmx
          rw [Nat.zero_add] at d1
          have hA := RAt.new wr zeroR
          have hst := hA.store x
          have hl3 := (hA.put x).whole HN2.out
          have hzx : (rc x).size = n2 := by rw [HN2.out]; exact rc_size _
          have HR3 := Lib.hid (hA.put x)
          have HK3 := Lib.hid (show Keep wr ((wr.alloc (.cells (rc zeroR) 37)).setRow wr.heap.size (rc x)) from ((Keep.refl wr).alloc _).setRow _ _ (Nat.le_refl _))
          have HC1 := Lib.hid (HCL.out _ x (HCK.out _ _ (HCO.out g _ _ HBG.out HC2.out HQ.out) HK3.out))
          have hjI : (j : Int) < n := by omega
          have HX := Lib.hid hx
          obtain ⟨X, hX⟩ : ∃ X, rc x = X := ⟨_, rfl⟩
          have HXE := Lib.hid hX
          clear hcl hA hx hmx
          simp only [hX] at d1 hst hl3 hzx HR3 HK3 HC1
          clear hX
          generalize (wr.alloc (.cells (rc zeroR) 37)).setRow wr.heap.size X = w3 at *
          cases hpx : p x
          · rw [hpx] at HC1
            have HDN := Lib.hid (HD.out.keep HX.out hpx)
            clear hpx
            go_wp2_with fail
            refine HC1.out.mono ?_
            rintro e w4 ⟨rfl, b4⟩
            have hl4 : (loadCellsFrom ⟨wr.heap.size, 0, none⟩ 0 n2 #[]).run Try.prog w4 = .ok X w4 := by
              rw [← HXE.out]
              exact (show RAt w4 wr.heap.size x from HR3.out.keep b4).whole HN2.out
            have ho4 : Own 37 20 rl B w4 (.slice (some ⟨g, 0, none⟩) m.length cap) m := by rw [HML.out]; exact HO.out.keep (HK3.out.trans b4)
            obtain ⟨g', w5, hg', _, hs5, ho5, on5⟩ := own_set ho4 i (by rw [HML.out]; omega) x
            simp at hg'
            subst hg'
            rw [HXE.out] at hs5
            rw [show i * 20 = i * n2 by rw [HN2.out]] at hs5
            rw [HML.out] at ho5
            have hiI : (i : Int) < n := by omega
            have HRL := Lib.hid (show DfRel w2 B g n cap p l (.int .i64 ((i : Int) + 1)) (.int .i64 ((j : Int) + 1)) w5 from ⟨i + 1, j + 1, m.set i x, by go_num, by go_num, HDN.out, ho5, HQ.out.trans ((Only.keep (HK3.out.trans b4)).trans on5)⟩)
            clear b4 ho4 ho5 on5 hl3 d1 hst HC1
            go_wp2
            go_roundw
            case rel => exact HRL.out
            case measure => simp [intOf]; omega
          · rw [hpx] at HC1
            have HDN := Lib.hid (HD.out.skip HX.out hpx)
            clear hpx
            go_wp2_with fail
            refine HC1.out.mono ?_
            rintro e w4 ⟨rfl, b4⟩
            have HRL := Lib.hid (show DfRel w2 B g n cap p l (.int .i64 i) (.int .i64 ((j : Int) + 1)) w4 from ⟨i, j + 1, m, rfl, by go_num, HDN.out, HO.out.keep (HK3.out.trans b4), HQ.out.trans (Only.keep (HK3.out.trans b4))⟩)
            clear b4 hl3 d1 hst HC1
            go_wp2
            go_roundw
            case rel => exact HRL.out
            case measure => simp [intOf]; omega
        · obtain rfl : j = n := by omega
          have hin : i < j := hij
          obtain ⟨w5, hcl, ho5, on5⟩ := clear_tail HO.out HML.out i hin (cap - i)
          have hrow : Row rl 37 w5 (.slice (some ⟨g, 0, none⟩) j cap) (m.take i ++ List.replicate (j - i) zeroR) := ho5.row elR
          have hlm : (m.take i ++ List.replicate (j - i) zeroR).length = j := by have := HML.out; simp; omega
          have hs1 : ∀ w', (Instr.sliceAt 22 (.slice (some ⟨g, 0, none⟩) j cap) (some (.int .i64 i)) none none).run Try.prog w' = .ok (.slice (some ⟨g, i * 20, none⟩) (j - i) (cap - i)) w' := fun w' => by
            have he : Try.prog.elem 22 = 37 := by kernel_rfl
            have h9 : ¬ cap = i := by omega
            have h8 : ¬ j < i := by omega
            clear HN2 hsz2 hn20 hzs hz
            go_simp
          have hs2 : ∀ w', (Instr.sliceAt 22 (.slice (some ⟨g, 0, none⟩) j cap) none (some (.int .i64 i)) none).run Try.prog w' = .ok (.slice (some ⟨g, 0, none⟩) i cap) w' := fun w' => by
            have he : Try.prog.elem 22 = 37 := by kernel_rfl
            have hjc : ¬ cap < i := by omega
            clear HN2 hsz2 hn20 hzs hz
            go_simp
          have HFR := Lib.hid (show Row rl 37 w5 (.slice (some ⟨g, 0, none⟩) i cap) (l.filter fun r => !p r) from by
            have hd := HD.out
            rw [← HL.out] at hd
            have := Row.part rl_len (w := w5) (g := g) (o := 0) (cap := cap) (l := m.take i ++ List.replicate (j - i) zeroR) (by rw [hlm]; exact hrow) 0 i cap (Nat.zero_le _) (by rw [hlm]; omega) 0 (fun _ => by omega) (by omega) HCM.out
            rw [Nat.sub_zero, List.drop_zero, List.take_append_of_le_length (by rw [List.length_take, HML.out]; omega), List.take_take, Nat.min_self, hd.done] at this
            exact this)
          have HQF := Lib.hid (HQ.out.trans on5)
          clear hrow hlm ho5 on5
          go_wp2
          go_ret
          exact ⟨_, rfl, HFR.out, Only.made HK2.out HQF.out (Nat.le_trans hB HBG.out)⟩
  · have hiz : ixZ p l = -1 := by unfold ixZ; rw [if_neg hix]
    have hall := idx_all hix
    rw [hiz] at HI
    obtain ⟨a, cap, e, _, _⟩ := (ho.row elR).cells.form
    subst e
    have HR := Lib.hid (ho.row elR)
    have HWK := Lib.hid hW
    have HF := Lib.hid (show (l.filter fun r => !p r) = l from List.filter_eq_self.2 (fun r hr => by rw [hall r hr]; rfl))
    have hl' : l.length ≤ 1000000 := hl
    generalize l.length = n at *
    clear hP hO ho hc hW hiz hall hix hi HCL HCK HCO he
    go_enter Try.func57, Try.ntmps57
    go_wp2_with fail
    refine HI.out.mono ?_
    rintro e w2 ⟨rfl, b2⟩
    have HRR := Lib.hid (HR.out.keep b2)
    have HKK := Lib.hid (HWK.out.trans b2)
    clear b2 HI
    go_wp2
    go_ret
    exact ⟨_, rfl, by rw [HF.out]; exact HRR.out, HKK.out⟩
end Go.Proofs.Ytfikdeobejhblaa
