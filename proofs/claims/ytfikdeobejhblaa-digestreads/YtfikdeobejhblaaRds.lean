/- Proved: DigestReads: any bytes are the digests that the document says, or are refused as it says; what is written is read as it was. Condition: none of our own. -/
import Derived.Test.YtfikdeobejhblaaOi
import Derived.Test.YtfikdeobejhblaaOj
import Derived.Test.YtfikdeobejhblaaDr
import Derived.Test.YtfikdeobejhblaaDn
import Derived.SizedLaws
namespace Go.Proofs.Ytfikdeobejhblaa.LDigestReads
open Go.RowKit

def lsR : Except Int (List Dg) → List Dg
  | .ok l => l
  | .error _ => []
def erR : Except Int (List Dg) → Int
  | .ok _ => 0
  | .error x => x
theorem rdN_len : ∀ (k : Nat) (s : List UInt8) (l : List Dg) (s' : List UInt8), rdN k s = .ok (l, s') → l.length = k
  | 0, s, l, s', h => by
    rw [rdN] at h
    simp at h
    rw [h.1]
    rfl
  | k + 1, s, l, s', h => by
    rw [rdN] at h
    split at h
    · simp at h
    · split at h
      · simp at h
      · split at h
        · simp at h
        · cases hr : rdN k (V.uintF (V.uintF s 0).2.1 0).2.1 with
          | error x =>
            rw [hr] at h
            simp at h
          | ok y =>
            obtain ⟨l2, s2⟩ := y
            rw [hr] at h
            simp at h
            rw [← h.1, List.length_cons, rdN_len k _ _ _ hr]
theorem read_len (s : List UInt8) : (lsR (readD9 s)).length ≤ 17 := by
  unfold readD9 outD
  rw [if_neg (by simp)]
  cases hr : rdN 17 s with
  | error x => simp [preD, endD, lsR]
  | ok y =>
    obtain ⟨l, s'⟩ := y
    have := rdN_len 17 s l s' hr
    simp only [preD, List.nil_append, endD]
    split
    · show l.length ≤ 17
      omega
    · simp [lsR]
theorem dread_un (s : List UInt8) (w : World) (hs : s.length ≤ 1000000) : Calls Try.prog 30 #[.string ⟨s.toArray⟩] w fun e w' => ∃ v, e = .returned (.tuple #[v, .int .i64 (erR (readD9 s))]) ∧ Cells dl w' v (lsR (readD9 s)) ∧ Keep w w' := by
  refine (dread s w hs).mono ?_
  intro e w' h
  unfold ReadPost9 at h
  cases hr : readD9 s with
  | error x =>
    rw [hr] at h
    exact ⟨_, h.1, .inl ⟨rfl, rfl⟩, h.2.2⟩
  | ok l =>
    rw [hr] at h
    obtain ⟨g, cap, e1, o, k⟩ := h
    exact ⟨_, e1, (o.row elD).cells, k⟩
theorem qread_un (s : List UInt8) (w : World) (hs : s.length ≤ 1000000) : Calls Try.prog 31 #[.string ⟨s.toArray⟩] w fun e w' => ∃ v, e = .returned (.tuple #[v, .int .i64 (erR (readD9 s))]) ∧ Cells dl w' v (lsR (readD9 s)) ∧ Keep w w' := by
  refine (qread9 s w hs).mono ?_
  intro e w' h
  unfold ReadPostQ at h
  cases hr : readD9 s with
  | error x =>
    rw [hr] at h
    exact ⟨_, h.1, .inl ⟨rfl, rfl⟩, h.2.2⟩
  | ok l =>
    rw [hr] at h
    obtain ⟨v, e1, o, k⟩ := h
    exact ⟨_, e1, (o.row elQ).cells, k⟩

def okN (d : Dg) : Bool := decide (0 ≤ d.n ∧ d.n ≤ 300)
def rOk (l : List Dg) (k : Nat) : Bool := decide (l.length = 17) && (l.take k).all okN
theorem rOk_next {l : List Dg} {k : Nat} {d : Dg} (h : l[k]? = some d) : rOk l (k + 1) = (rOk l k && okN d) := by
  unfold rOk
  rw [List.take_add_one, h]
  simp [Bool.and_assoc]
theorem rOk_back {l : List Dg} {N : Nat} (hN : l.length = N) (hq : ∀ d ∈ l, SqD d) (h : rOk l N = true) : readD9 (printD l) = .ok l := by
  unfold rOk at h
  rw [List.take_of_length_le (by omega)] at h
  simp at h
  refine back_D h.1 fun d hd => ?_
  have h1 := h.2 d hd
  unfold okN at h1
  simp at h1
  exact ⟨h1.1, h1.2, (hq d hd).2.1, (hq d hd).2.2⟩
def RiRel (W : World) (l : List Dg) (r i : Value) (wr : World) : Prop := ∃ k : Nat, i = .int .i64 k ∧ k ≤ l.length ∧ r = .bool (rOk l k) ∧ Keep W wr

set_option maxRecDepth 100000 in
set_option maxHeartbeats 4000000 in
theorem walk (s : List UInt8) (a : Option Addr) (acap : Nat) (la : List Dg) (w : World) (hl : s.length ≤ 9223372036854775807) (hA : ArgN dl w a acap la) (ha : ∀ d ∈ la, SqD d) :
    Calls Try.prog 6 #[.string ⟨s.toArray⟩, .slice a la.length acap] w fun e w' => e = .returned (.bool true) ∧ Keep w w' := by
  have HAw := Lib.hid awake
  have hlen : (⟨s.toArray⟩ : ByteArray).size = s.length := by simp [ByteArray.size]
  have hs2 := hA.small
  have HA := Lib.hid hA
  have HSA := Lib.hid ha
  obtain ⟨NA, hNA⟩ : ∃ N, la.length = N := ⟨_, rfl⟩
  have HNA := Lib.hid hNA
  rw [hNA] at hs2
  rw [hNA]
  clear hA hNA ha
  unfold maxLen at hs2
  by_cases h1 : s.length > 1000
  · have h1i : (s.length : Int) > 1000 := by omega
    go_enter Try.func6, Try.ntmps6
    go_wp2_with fail
    refine (HAw.out _).mono ?_
    rintro e w1 ⟨rfl, k1⟩
    have HK1 := Lib.hid k1
    clear k1
    go_wp2_with fail
    refine (HAw.out _).mono ?_
    rintro e w2 ⟨rfl, k2⟩
    go_wp2
    go_ret
    exact ⟨rfl, HK1.out.trans k2⟩
  · have h1i : ¬ (s.length : Int) > 1000 := by omega
    by_cases h2 : NA > 40
    · have h2i : (NA : Int) > 40 := by omega
      go_enter Try.func6, Try.ntmps6
      go_wp2_with fail
      refine (HAw.out _).mono ?_
      rintro e w1 ⟨rfl, k1⟩
      have HK1 := Lib.hid k1
      clear k1
      go_wp2_with fail
      refine (HAw.out _).mono ?_
      rintro e w2 ⟨rfl, k2⟩
      go_wp2
      go_ret
      exact ⟨rfl, HK1.out.trans k2⟩
    · have h2i : ¬ (NA : Int) > 40 := by omega
      have HSL := Lib.hid slice_noD
      obtain ⟨hz, hi⟩ := zero_of_info infoDb
      have HR := Lib.hid (fun (w : World) => dread_un s w (by omega))
      have HQ := Lib.hid (fun (w : World) => qread_un s w (by omega))
      have HRL := Lib.hid (read_len s)
      have hpl := printD_len la HSA.out
      have HRT := Lib.hid (fun (w : World) => dread_un (printD la) w (by rw [HNA.out] at hpl; omega))
      have HDP := Lib.hid (fun (v : Value) (w : World) (h : Cells dl w v la) => dprint v la w (Lg.of h) HSA.out (by rw [HNA.out]; omega))
      have HQP := Lib.hid (fun (v : Value) (w : World) (h : Cells dl w v la) => qprint v la w (Lg.of h) HSA.out (by rw [HNA.out]; omega))
      have HBk := Lib.hid (fun h => rOk_back HNA.out HSA.out h)
      clear hi hpl
      generalize readD9 s = RS at *
      generalize hTX : printD la = TX at *
      generalize hRX : readD9 TX = RX at *
      have HLk := Lib.hid (fun (w' : World) (k : Keep w w') => like9 (.slice a NA acap) la w' (Lg.arg (HA.out.keep k) HNA.out) (by rw [HNA.out]; omega))
      have HSm := Lib.hid (fun (u v : Value) (w' : World) (hu : Cells dl w' u (lsR RS)) (hv : Cells dl w' v (lsR RS)) => same9 u v (lsR RS) (lsR RS) w' (Lg.of hu) (Lg.of hv) (by have := HRL.out; omega) (by have := HRL.out; omega))
      have HSA' := Lib.hid (fun (u v : Value) (w' : World) (hu : Cells dl w' u la) (hv : Cells dl w' v la) => same9 u v la la w' (Lg.of hu) (Lg.of hv) (by rw [HNA.out]; omega) (by rw [HNA.out]; omega))
      simp only [decide_true] at HSm HSA'
      clear hTX hRX
      go_enter Try.func6, Try.ntmps6
      go_wp2_with fail
      refine (HAw.out _).mono ?_
      rintro e w1 ⟨rfl, k1⟩
      have HK1 := Lib.hid k1
      clear k1
      go_wp2_with fail
      refine (HR.out w1).mono ?_
      rintro e w2 ⟨vd, rfl, c2, k2⟩
      have HK2 := Lib.hid (HK1.out.trans k2)
      have HD2 := Lib.hid c2
      obtain ⟨ad, cd, ed, _, _⟩ := c2.form
      subst ed
      clear k2 c2 HK1 HR
      go_wp2_with fail
      refine (HQ.out w2).mono ?_
      rintro e w3 ⟨vq, rfl, c3, k3⟩
      have HK3 := Lib.hid (HK2.out.trans k3)
      have HD3 := Lib.hid (HD2.out.keep k3)
      have HQ3 := Lib.hid c3
      clear k3 c3 HK2 HD2 HQ
      have HA1 := Lib.hid ((HA.out.keep HK3.out).keep ((Keep.refl w3).alloc (.cells #[] 68)))
      have HO1 := Lib.hid (Own.made (t := 68) (k := 2) (enc := dl) w3.heap.size w3 (Nat.le_refl _))
      go_wp2_with (first | ((with_reducible refine at_slice [] ?_ (.slice (some ⟨w3.heap.size, 0, none⟩) 0 0) (HSL.out w3) ?_); rfl) | (at_builtin; refine wp_appN elD rfl _ _ rfl w3.heap.size _ a NA acap [] la rfl HNA.out rfl HO1.out HA1.out ?q1 ?q2 ?q3 ?_))
      case q1 => rw [HNA.out]; simp; omega
      case q2 => rw [HNA.out]; simp; omega
      case q3 => simp
      intro v4 w4 o4 g4
      have HKg := Lib.hid (HO1.out.grown ((Keep.refl w3).alloc _) (Nat.le_refl _) g4)
      have HK4 := Lib.hid (HK3.out.trans HKg.out)
      have HD4 := Lib.hid (HD3.out.keep HKg.out)
      have HQ4 := Lib.hid (HQ3.out.keep HKg.out)
      have HP4 := Lib.hid (HDP.out v4 w4 (o4.row elD).cells)
      clear o4 g4 HA1 HO1 HKg HK3 HD3 HQ3 HDP
      go_wp2_with fail
      refine HP4.out.mono ?_
      rintro e w5 ⟨rfl, k5⟩
      have HK5 := Lib.hid (HK4.out.trans k5)
      have HD5 := Lib.hid (HD4.out.keep k5)
      have HQ5 := Lib.hid (HQ4.out.keep k5)
      clear k5 HP4 HK4 HD4 HQ4
      go_wp2_with fail
      refine (HRT.out w5).mono ?_
      rintro e w6 ⟨vt, rfl, c6, k6⟩
      have HK6 := Lib.hid (HK5.out.trans k6)
      have HD6 := Lib.hid (HD5.out.keep k6)
      have HQ6 := Lib.hid (HQ5.out.keep k6)
      have HT6 := Lib.hid c6
      clear k6 c6 HK5 HD5 HQ5 HRT
      have HR0 := Lib.hid (show ((NA : Int) == 17) = rOk la 0 from by
        unfold rOk
        rw [HNA.out]
        by_cases h : NA = 17
        · simp [h]
        · simp [h]
          omega)
      clear hz
      obtain ⟨hz, hi⟩ := zero_of_info infoDb
      clear hi
      go_wp2
      go_loopw [12, 52] (fun r i wr => RiRel w6 la r i wr) (fun _ i _ => NA - (intOf i).toNat)
      case atStart => exact ⟨0, rfl, Nat.zero_le _, by rw [HR0.out], Keep.refl _⟩
      case round =>
        obtain ⟨k, rfl, hk1, rfl, hk⟩ := hrel
        rw [HNA.out] at hk1
        by_cases hlt : k < NA
        · have hcc := HA.out.cells (fun e => by have h := HNA.out; rw [e] at h; simp at h; omega)
          obtain ⟨g1, o1, cap1, e1, _, _, _⟩ := hcc.ptr k (by rw [HNA.out]; exact hlt)
          simp at e1
          obtain ⟨rfl, rfl⟩ := e1
          obtain ⟨x, hx⟩ : ∃ x, la[k]? = some x := ⟨_, List.getElem?_eq_getElem (by rw [HNA.out]; exact hlt)⟩
          have HX := Lib.hid (rOk_next hx)
          have hc2 := hcc.keep (HK6.out.trans hk)
          have d1 := hc2.dn rfl k x hx
          have d2 := hc2.ds rfl k x hx
          have HK := Lib.hid hk
          clear hx hk hcc hc2
          obtain ⟨xn, xs⟩ := x
          simp only at d1 d2
          have HKA := Lib.hid (HK.out.trans ((Keep.refl wr).alloc (.cells #[.int .i64 xn, .int .u64 xs] 68)))
          unfold okN at HX
          simp only at HX
          cases hb : rOk la k with
          | false =>
            have HRL := Lib.hid (show RiRel w6 la (.bool false) (.int .i64 ((k : Int) + 1)) _ from ⟨k + 1, by go_num, by rw [HNA.out]; omega, by rw [HX.out, hb]; rfl, HKA.out⟩)
            clear hb
            go_wp2
            go_roundw
            case rel => exact HRL.out
            case measure => simp [intOf]; omega
          | true =>
            by_cases x0 : xn ≥ 0
            · by_cases x3 : xn ≤ 300
              · have HRL := Lib.hid (show RiRel w6 la (.bool true) (.int .i64 ((k : Int) + 1)) _ from ⟨k + 1, by go_num, by rw [HNA.out]; omega, by rw [HX.out, hb]; simp [x0, x3], HKA.out⟩)
                clear hb
                go_wp2
                go_roundw
                case rel => exact HRL.out
                case measure => simp [intOf]; omega
              · have HRL := Lib.hid (show RiRel w6 la (.bool false) (.int .i64 ((k : Int) + 1)) _ from ⟨k + 1, by go_num, by rw [HNA.out]; omega, by rw [HX.out, hb]; simp [x3], HKA.out⟩)
                clear hb
                go_wp2
                go_roundw
                case rel => exact HRL.out
                case measure => simp [intOf]; omega
            · have HRL := Lib.hid (show RiRel w6 la (.bool false) (.int .i64 ((k : Int) + 1)) _ from ⟨k + 1, by go_num, by rw [HNA.out]; omega, by rw [HX.out, hb]; simp [x0], HKA.out⟩)
              clear hb
              go_wp2
              go_roundw
              case rel => exact HRL.out
              case measure => simp [intOf]; omega
        · obtain rfl : k = NA := by omega
          have HKr := Lib.hid (HK6.out.trans hk)
          have HDr := Lib.hid (HD6.out.keep hk)
          have HQr := Lib.hid (HQ6.out.keep hk)
          have HTr := Lib.hid (HT6.out.keep hk)
          clear hk HK6 HD6 HQ6 HT6
          have he : (erR RS == erR RS) = true := by simp
          generalize erR RS = ER at *
          generalize lsR RS = LS at *
          obtain ⟨S, hS⟩ : ∃ S : ByteArray, (⟨TX.toArray⟩ : ByteArray) = S := ⟨_, rfl⟩
          rw [hS] at HQP ⊢
          clear hS
          cases hb : rOk la k with
          | false =>
            clear HBk
            generalize erR RX = EX at *
            clear hb
            go_wp2_with fail
            refine (HSm.out _ _ wr HDr.out HQr.out).mono ?_
            rintro e wa ⟨rfl, ka⟩
            have HKa := Lib.hid (HKr.out.trans ka)
            have HTa := Lib.hid (HTr.out.keep ka)
            clear ka HKr HTr HDr HQr
            go_wp2_with fail
            refine (HLk.out wa HKa.out).mono ?_
            rintro e wb ⟨vb, rfl, ob, kb⟩
            have HKb := Lib.hid (HKa.out.trans kb)
            have HTb := Lib.hid (HTa.out.keep kb)
            have HQb := Lib.hid (HQP.out vb wb (ob.row elQ).cells)
            clear ob kb HKa HTa HQP
            go_wp2_with fail
            refine HQb.out.mono ?_
            rintro e wc ⟨rfl, kc⟩
            have HKe := Lib.hid (HKb.out.trans kc)
            have HTe := Lib.hid (HTb.out.keep kc)
            clear kc HKb HTb HQb
            go_wp2
            go_ret
            exact ⟨rfl, HKe.out⟩
          | true =>
            have hRX := HBk.out hb
            rw [hRX] at HTr ⊢
            simp only [erR, lsR] at HTr ⊢
            clear hb hRX HBk
            go_wp2_with fail
            refine (HSm.out _ _ wr HDr.out HQr.out).mono ?_
            rintro e wa ⟨rfl, ka⟩
            have HKa := Lib.hid (HKr.out.trans ka)
            have HTa := Lib.hid (HTr.out.keep ka)
            clear ka HKr HTr HDr HQr
            go_wp2_with fail
            refine (HLk.out wa HKa.out).mono ?_
            rintro e wb ⟨vb, rfl, ob, kb⟩
            have HKb := Lib.hid (HKa.out.trans kb)
            have HTb := Lib.hid (HTa.out.keep kb)
            have HQb := Lib.hid (HQP.out vb wb (ob.row elQ).cells)
            clear ob kb HKa HTa HQP
            go_wp2_with fail
            refine HQb.out.mono ?_
            rintro e wc ⟨rfl, kc⟩
            have HKe := Lib.hid (HKb.out.trans kc)
            have HTe := Lib.hid (HTb.out.keep kc)
            clear kc HKb HTb HQb
            go_wp2_with fail
            refine (HLk.out _ HKe.out).mono ?_
            rintro e we ⟨ve, rfl, oe, ke⟩
            go_wp2_with fail
            refine (HSA'.out _ ve we (HTe.out.keep ke) (oe.row elQ).cells).mono ?_
            rintro e wf ⟨rfl, kf⟩
            have HKf := Lib.hid (HKe.out.trans (ke.trans kf))
            clear oe ke kf HKe HTe
            go_wp2
            go_ret
            exact ⟨rfl, HKf.out⟩

open Go.ChangeShapes Go.WideShapes Go.ChangeAt
theorem own : ownKnob Try.prog.godebug = none := by kernel_rfl
theorem laidOut : laidOutB Try.prog = true := by kernel_rfl

set_option maxRecDepth 100000 in
theorem lifted (os : Os) (started : os.Started) (H : Type) (enc : TypeId × Value → H) :
    ReturnsInHanded {} Try.checked os 6 .any (Rows.digestReadsSpec.pre6 enc Try.prog Try.f6 Rows.digestReadsRow.domain false) (Rows.digestReadsSpec.post enc Try.prog Try.f6 false true false false) := by
  refine returnsInHanded_of_change (C := Try.checked) own started (by kernel_rfl) Try.func6
    (ChangeSpec.witness6 (enc := enc) (C := Try.checked) false ⟨#[], #[.string ⟨#[]⟩, .slice none 0 0], []⟩ 8 (by kernel_rfl) (by kernel_rfl) (by kernel_rfl) (by kernel_rfl)) ?_
  intro W base args ds gs before hval0 hW hcnd _
  have hval : ∀ (j : Nat) t v, Try.f6.params[j]? = some t → args[j]? = some v → Value.okWide Try.prog W .any base t v := hval0
  have hW' := hW
  obtain ⟨p, q, hA0, hV, rfl, hfz, hnd⟩ := hW
  have hA : DataW.TrodAll enc Try.prog W 0 (fun _ => true) true Try.f6.params.toList args.toList ds p := hA0

  rw [Try.params6] at hA hval
  obtain ⟨v0, vs0, d0, ds0, p0, q0, hargs, rfl, rfl, h0, r0⟩ := trodAll_cons hA
  obtain ⟨v1, vs1, d1, ds1, p1, q1, rfl, rfl, rfl, h1, r1⟩ := trodAll_cons r0
  obtain ⟨rfl, rfl, rfl⟩ := trodAll_nil r1
  obtain rfl : args = #[v0, v1] := by cases args; simp_all
  obtain ⟨rfl, rfl⟩ := trodVars_none hV
  have k0 := h0
  have lt0 : ∀ x ∈ p0, x.block < W.heap.size := by obtain ⟨m, hm⟩ := k0; exact DataW.trod_lt m _ _ _ hm
  have k1 := h1
  have lt1 : ∀ x ∈ p1, x.block < W.heap.size := by obtain ⟨m, hm⟩ := k1; exact DataW.trod_lt m _ _ _ hm
  obtain ⟨a0, rfl, _, _, w0⟩ := Go.ChangeMaps.open_string Try.underlying9 (hval 0 9 v0 rfl rfl) h0
  obtain ⟨a1, cap1, l1, rfl, f1, sq1⟩ := open_digestsN (hval 1 42 v1 rfl rfl) h1
  clear hA0 hval0
  refine (walk a0.data.toList a1 cap1 l1 W (by simpa [maxLen] using w0) f1 sq1).mono fun e W' ⟨he, bel⟩ => ?_
  subst he
  exact ⟨_, rfl, _, _, _, [], _, [], hW', trodAll_mk1 (shut_bool Try.underlying4 _), (trodAll_cons_mk (Below.trod laidOut (by kernel_rfl) (of_decide_eq_true (by kernel_rfl)) k0 bel lt0) (trodAll_cons_mk (Below.trod laidOut (by kernel_rfl) (of_decide_eq_true (by kernel_rfl)) k1 bel lt1) trodAll_mk0)), rfl, bel.frame _, fun h => by cases h⟩

theorem over : Rows.digestReadsRow.holds Try.pinned (OpenSpec.ofChange Rows.digestReadsSpec) :=
  OpenClaim.holds_of_wide 6 Try.f6 rfl rfl rfl rfl rfl rfl rfl ⟨rfl, rfl, rfl, rfl, rfl⟩ rfl rfl rfl rfl rfl (by kernel_rfl) Try.func6 (by kernel_rfl)
    (of_decide_eq_true (by kernel_rfl)) (by unfold Func.isWrapper; first | (rw [if_pos (by decide +kernel)]; kernel_rfl) | (rw [if_neg (by decide +kernel)]; exact ⟨rfl, rfl⟩))
    (fun os started H enc _ => lifted os started H enc)
end Go.Proofs.Ytfikdeobejhblaa.LDigestReads

namespace Go.Proofs.Ytfikdeobejhblaa
theorem digestReads_holds : Rows.DigestReadsSaid := LDigestReads.over
#print axioms digestReads_holds
end Go.Proofs.Ytfikdeobejhblaa

