/- Proved: DumpShort: a dump takes no more bytes than its prefixes whole; packed, no more than nine bits a byte. Condition: none of our own. -/
import Derived.Test.YtpimecnpdpcceaaLw
import Derived.Test.YtpimecnpdpcceaaMx
import Derived.SizedLaws
namespace Go.Proofs.Ytpimecnpdpcceaa.LDumpShort
open Go.RowKit

def sumW (l : List Rt) : Nat := (l.map fun r => 10 + (bytesL r.to).length).sum
def ShRel (w : World) (b : Nat) (l : List Rt) (a : Option Addr) (cap : Nat) (hv iv : Value) (wr : World) : Prop :=
  ∃ k : Nat, iv = .int .i64 k ∧ k ≤ l.length ∧ hv = .int .i64 (2 + sumW (l.take k) : Nat) ∧ sumW (l.take k) ≤ 27 * k ∧ Tb wr b l ∧ Cells rl wr (.slice a l.length cap) l ∧ Keep w wr
theorem sumW_snoc (l : List Rt) (r : Rt) : sumW (l ++ [r]) = sumW l + (10 + (bytesL r.to).length) := by simp [sumW]
theorem dump_whole (l : List Rt) (hl : l.length ≤ 300) (hok : ∀ r ∈ l, Rok r) : (Dm.dumpL codP (l.map rwOf)).length ≤ 2 + sumW l := by
  have h1 := Dm.go_len (C := codP) (l.map rwOf) [] (fun r hr => by
    obtain ⟨x, hx, rfl⟩ := List.mem_map.1 hr
    obtain ⟨⟨_, h1, h2⟩, h3, h4⟩ := hok x hx
    exact ⟨by show x.metric.toNat < 65535; omega, by show x.seq.toNat < 4294967296; omega⟩)
  have h2 : ((l.map rwOf).map fun r => 1 + 1 + (codP.pb r.p).length + 3 + 5).sum = sumW l := by
    unfold sumW
    rw [List.map_map]
    congr 1
    apply List.map_congr_left
    intro r hr
    show 1 + 1 + (codP.pb r.to).length + 3 + 5 = _
    rw [pb_right (hok r hr).1.1 r.ok]
    omega
  have h3 : (V.enc l.length).length ≤ 2 := V.enc_len 1 _ (by omega)
  unfold Dm.dumpL
  rw [List.length_append, List.length_map]
  omega

set_option maxRecDepth 100000 in
set_option maxHeartbeats 2000000 in
theorem walk (a : Option Addr) (cap : Nat) (l : List Rt) (w : World) (hA : ArgN rl w a cap l) (hq : ∀ r ∈ l, Sq r) :
    Calls Try.prog 5 #[.slice a l.length cap] w fun e w' => e = .returned (.bool true) ∧ Keep w w' := by
  have HAw := Lib.hid awake
  have hsm := hA.small
  have HA := Lib.hid hA
  have HQ := Lib.hid hq
  obtain ⟨N, hN⟩ : ∃ N, l.length = N := ⟨_, rfl⟩
  have HN := Lib.hid hN
  rw [hN] at hsm ⊢
  clear hA hq hN
  unfold maxLen at hsm
  by_cases h1 : N > 300
  · have h1i : (N : Int) > 300 := by omega
    go_enter Try.func5, Try.ntmps5
    go_wp2_with fail
    refine (HAw.out _).mono ?_
    rintro e w1 ⟨rfl, k1⟩
    have HK1 := Lib.hid k1
    clear k1
    go_wp2_with fail
    refine (HAw.out _).mono ?_
    rintro e w2 ⟨rfl, k2⟩
    go_wp2
    go_ret
    exact ⟨rfl, HK1.out.trans k2⟩
  · have h1i : ¬ (N : Int) > 300 := by omega
    have HSL := Lib.hid slice_no
    go_enter Try.func5, Try.ntmps5
    go_wp2_with fail
    refine (HAw.out _).mono ?_
    rintro e w1 ⟨rfl, k1⟩
    have HK1 := Lib.hid k1
    have HA1 := Lib.hid ((HA.out.keep k1).keep ((Keep.refl w1).alloc (.cells #[] 43)))
    have HO1 := Lib.hid (Own.made (t := 43) (k := 20) (enc := rl) w1.heap.size w1 (Nat.le_refl _))
    clear k1
    go_wp2_with (first | (refine at_slice [] rfl _ (HSL.out _) ?_) | (at_builtin; refine wp_appN elR rfl _ _ rfl w1.heap.size _ a N cap [] l rfl HN.out rfl HO1.out HA1.out ?q1 ?q2 ?q3 ?_))
    case q1 => rw [HN.out]; simp; omega
    case q2 => rw [HN.out]; simp; omega
    case q3 => simp
    intro v2 w2 o2 g2
    have HK2 := Lib.hid (HO1.out.grown ((Keep.refl w1).alloc _) (Nat.le_refl _) g2)
    have HNw := Lib.hid (new v2 l w2 (o2.row elR).cells (by rw [HN.out]; omega))
    clear o2 g2
    go_wp2_with fail
    refine HNw.out.mono ?_
    rintro e w3 ⟨p, rfl, k3, ⟨h0, rfl⟩ | ⟨h0, b, l', rfl, _, hperm, htb⟩⟩
    · have h0b : (newE l != 0) = true := by simpa using h0
      have HK3 := Lib.hid ((HK1.out.trans HK2.out).trans k3)
      clear k3
      go_wp2
      go_ret
      exact ⟨rfl, HK3.out⟩
    · rw [h0]
      have HRok := Lib.hid (rok_of h0 hperm HQ.out)
      have hfew := htb.few
      have HSo := Lib.hid htb.sorted
      have HSh := Lib.hid (dump_short l' hfew HRok.out)
      have HK3 := Lib.hid ((HK1.out.trans HK2.out).trans k3)
      have HT3 := Lib.hid htb
      clear k3 htb hperm HNw
      have HPr := Lib.hid (fun (w : World) (h : Tb w b l') => dprint (.pointer (some ⟨b, 0, none⟩)) l' w (.inr ⟨b, rfl, h⟩) HRok.out)
      have HPk := Lib.hid (fun (w : World) (h : Tb w b l') => dpack (.pointer (some ⟨b, 0, none⟩)) l' w (.inr ⟨b, rfl, h⟩) HRok.out)
      have HAl := Lib.hid (all (.pointer (some ⟨b, 0, none⟩)) l' w3 (.inr ⟨b, rfl, HT3.out⟩))
      have HWh := Lib.hid (dump_whole l' hfew HRok.out)
      unfold DPackPost at HPk
      generalize Dm.dumpL codP (l'.map rwOf) = D at *
      obtain ⟨hz, hi⟩ := zero_of_info info34b
      obtain ⟨n, hn⟩ : ∃ n, n = 20 := ⟨20, rfl⟩
      have hsz : ∀ w, (Go.sizeOf 43).run Try.prog w = .ok n w := fun w => by rw [hn]; exact Try.sizeOf43 w
      have hn0 : ¬ n = 0 := by omega
      have hrn : ∀ r : Rt, (rc r).size = n := fun r => by rw [hn]; exact rc_size r
      obtain ⟨n2, hn2⟩ : ∃ n, n = 18 := ⟨18, rfl⟩
      have hsz2 : ∀ w, (Go.sizeOf 40).run Try.prog w = .ok n2 w := fun w => by rw [hn2]; exact Try.sizeOf40 w
      have hn20 : ¬ n2 = 0 := by omega
      have HNn := Lib.hid hn
      have HN2 := Lib.hid hn2
      clear hn hn2
      go_wp2_with fail
      refine HAl.out.mono ?_
      rintro e w4 ⟨v4, rfl, o4, k4⟩
      have hc4 := (o4.row elR).cells
      obtain ⟨a4, cap4, rfl, _, _⟩ := hc4.form
      have HC4 := Lib.hid hc4
      have HT4 := Lib.hid (HT3.out.keep k4)
      have HK4 := Lib.hid (HK3.out.trans k4)
      obtain ⟨M, hM⟩ : ∃ M, l'.length = M := ⟨_, rfl⟩
      have HM := Lib.hid hM
      rw [hM] at hfew ⊢
      clear k4 o4 hc4 hM HAl
      go_wp2
      go_loopw [5, 31] (fun hv iv wr => ShRel w b l' a4 cap4 hv iv wr) (fun _ iv _ => M - (intOf iv).toNat)
      case atStart => exact ⟨0, rfl, Nat.zero_le _, rfl, Nat.le_refl _, HT4.out, HC4.out, HK4.out⟩
      case round =>
        obtain ⟨k, rfl, hk, rfl, hsw, htb, hcl, hw⟩ := hrel
        rw [HM.out] at hk
        have HT := Lib.hid htb
        have HK := Lib.hid hw
        clear htb hw
        by_cases hlt : k < M
        · obtain ⟨g, o, cap', e, _, _, _⟩ := hcl.ptr k (by rw [HM.out]; exact hlt)
          simp at e
          obtain ⟨rfl, rfl⟩ := e
          obtain ⟨x, hx⟩ : ∃ x, l'[k]? = some x := ⟨_, List.getElem?_eq_getElem (by rw [HM.out]; exact hlt)⟩
          have dx := hcl.rt HNn.out k x hx
          have hxr := HRok.out x (List.mem_of_getElem? hx)
          have HBy := Lib.hid (qbytes x.to x.ok hxr.1.1)
          have hbl := bytesL_len x.to hxr.1.1 x.ok
          have HSn := Lib.hid (show sumW (l'.take (k + 1)) = sumW (l'.take k) + (10 + (bytesL x.to).length) from by rw [take_snoc hx, sumW_snoc])
          generalize bytesL x.to = bs at *
          generalize sumW (l'.take k) = S at *
          have hbs : (⟨bs.toArray⟩ : ByteArray).size = bs.length := by simp [ByteArray.size]
          have HA := Lib.hid (RAt.new wr zeroR)
          have HP := Lib.hid (HA.out.put x)
          have hst := HA.out.store x
          have hto := HP.out.to HN2.out
          have HKA := Lib.hid (((Keep.refl wr).alloc (.cells (rc zeroR) 43)).setRow wr.heap.size (rc x) (Nat.le_refl _))
          have HCA := Lib.hid (hcl.keep HKA.out)
          clear hcl hx HA hxr
          go_wp2_with fail
          refine (HBy.out _).mono ?_
          rintro e w5 ⟨rfl, k5⟩
          have HT5 := Lib.hid ((HT.out.keep HKA.out).keep k5)
          have HC5 := Lib.hid (HCA.out.keep k5)
          have HK5 := Lib.hid ((HK.out.trans HKA.out).trans k5)
          clear k5 dx hst hto
          go_wp2
          go_roundw
          case rel => exact ⟨k + 1, by go_num, by rw [HM.out]; omega, by rw [HSn.out]; go_num, by rw [HSn.out]; omega, HT5.out, HC5.out, HK5.out⟩
          case measure => simp [intOf]; omega
        · have HSw := Lib.hid (show l'.take k = l' from List.take_of_length_le (by rw [HM.out]; omega))
          rw [HSw.out] at hsw ⊢
          have hDw : D.length ≤ 2 + sumW l' := HWh.out
          have hDl : D.length ≤ 65536 := HSh.out
          generalize sumW l' = S at *
          have hDs : (⟨D.toArray⟩ : ByteArray).size = D.length := by simp [ByteArray.size]
          clear hcl
          go_wp2_with fail
          refine (HPr.out wr HT.out).mono ?_
          rintro e w5 ⟨rfl, k5⟩
          have HT5 := Lib.hid (HT.out.keep k5)
          have HK5 := Lib.hid (HK.out.trans k5)
          clear k5
          go_wp2_with fail
          refine (HPk.out w5 HT5.out).mono ?_
          rintro e w6 ⟨p, rfl, hp, k6⟩
          have hpl := hp.len HSh.out
          have hps : (⟨p.toArray⟩ : ByteArray).size = p.length := by simp [ByteArray.size]
          have HK6 := Lib.hid (HK5.out.trans k6)
          have hpi : (p.length : Int) ≤ (9 * (D.length : Int) + 47) / 8 := by omega
          have hpi2 : (p.length : Int) ≤ (9 * (D.length : Int) + 47).tdiv 8 := by rw [Int.tdiv_eq_ediv_of_nonneg (by omega)]; exact hpi
          have hDi : (D.length : Int) ≤ 2 + (S : Int) := by omega
          have hDi2 : (D.length : Int) ≤ ((2 + S : Nat) : Int) := by omega
          clear hp k6
          go_wp2
          go_ret
          exact ⟨rfl, HK6.out⟩

open Go.ChangeShapes Go.WideShapes Go.ChangeAt
theorem own : ownKnob Try.prog.godebug = none := by kernel_rfl
theorem laidOut : laidOutB Try.prog = true := by kernel_rfl

set_option maxRecDepth 100000 in
theorem lifted (os : Os) (started : os.Started) (H : Type) (enc : TypeId × Value → H) :
    ReturnsInHanded {} Try.checked os 5 .any (Rows.dumpShortSpec.pre6 enc Try.prog Try.f5 Rows.dumpShortRow.domain false) (Rows.dumpShortSpec.post enc Try.prog Try.f5 false true false false) := by
  refine returnsInHanded_of_change (C := Try.checked) own started (by kernel_rfl) Try.func5
    (ChangeSpec.witness6 (enc := enc) (C := Try.checked) false ⟨#[], #[.slice none 0 0], []⟩ 8 (by kernel_rfl) (by kernel_rfl) (by kernel_rfl) (by kernel_rfl)) ?_
  intro W base args ds gs before hval0 hW hcnd _
  have hval : ∀ (j : Nat) t v, Try.f5.params[j]? = some t → args[j]? = some v → Value.okWide Try.prog W .any base t v := hval0
  have hW' := hW
  obtain ⟨p, q, hA0, hV, rfl, hfz, hnd⟩ := hW
  have hA : DataW.TrodAll enc Try.prog W 0 (fun _ => true) true Try.f5.params.toList args.toList ds p := hA0

  rw [Try.params5] at hA hval
  obtain ⟨v0, vs0, d0, ds0, p0, q0, hargs, rfl, rfl, h0, r0⟩ := trodAll_cons hA
  obtain ⟨rfl, rfl, rfl⟩ := trodAll_nil r0
  obtain rfl : args = #[v0] := by cases args; simp_all
  obtain ⟨rfl, rfl⟩ := trodVars_none hV
  have k0 := h0
  have lt0 : ∀ x ∈ p0, x.block < W.heap.size := by obtain ⟨m, hm⟩ := k0; exact DataW.trod_lt m _ _ _ hm
  obtain ⟨a0, cap0, l0, rfl, f0, sq0⟩ := open_routesN (hval 0 22 v0 rfl rfl) h0
  clear hA0 hval0
  refine (walk a0 cap0 l0 W f0 sq0).mono fun e W' ⟨he, bel⟩ => ?_
  subst he
  exact ⟨_, rfl, _, _, _, [], _, [], hW', trodAll_mk1 (shut_bool Try.underlying4 _), (trodAll_cons_mk (Below.trod laidOut (by kernel_rfl) (of_decide_eq_true (by kernel_rfl)) k0 bel lt0) trodAll_mk0), rfl, bel.frame _, fun h => by cases h⟩

theorem over : Rows.dumpShortRow.holds Try.pinned (OpenSpec.ofChange Rows.dumpShortSpec) :=
  OpenClaim.holds_of_wide 5 Try.f5 rfl rfl rfl rfl rfl rfl rfl ⟨rfl, rfl, rfl, rfl, rfl⟩ rfl rfl rfl rfl rfl (by kernel_rfl) Try.func5 (by kernel_rfl)
    (of_decide_eq_true (by kernel_rfl)) (by unfold Func.isWrapper; first | (rw [if_pos (by decide +kernel)]; kernel_rfl) | (rw [if_neg (by decide +kernel)]; exact ⟨rfl, rfl⟩))
    (fun os started H enc _ => lifted os started H enc)
end Go.Proofs.Ytpimecnpdpcceaa.LDumpShort

namespace Go.Proofs.Ytpimecnpdpcceaa
theorem dumpShort_holds : Rows.DumpShortSaid := LDumpShort.over
#print axioms dumpShort_holds
end Go.Proofs.Ytpimecnpdpcceaa

