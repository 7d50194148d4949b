/- Proved: for every list of texts and every list of bytes the law ReceiverOrder returns true (in whatever order chunks come, and however often, the text is the same), and its arguments read behind the call as they read before. Condition, by the row's own list: math/bits.deBruijn64tab starts as the program's text lays it (the card ties that). -/
import Derived.Test.YtifcibmpeolmdaaDoorOr
import Derived.Deep.RegionHeldLaw
namespace Go.Proofs.YtifcibmpeolmdaaDoor.LReceiverOrder
open Go.RowKit

def AlRel (v : World) (ch : List (List UInt8)) (N : Nat) (sv iv : Value) (wr : World) : Prop :=
  wr = v ∧ ∃ k : Nat, iv = .int .i64 k ∧ k ≤ N ∧ sv = .string ⟨((ch.take k).flatten).toArray⟩ ∧ ∀ i, i < k → (ch.getD i []).length ≤ 1000
def OdRel (w0 : World) (b Br Bn Bc g o cap : Nat) (ch : List (List UInt8)) (M : Nat) (iv : Value) (wr : World) : Prop :=
  ∃ (k : Nat) (r : Rv) (K : List Nat), iv = .int .i64 k ∧ k ≤ M ∧ Ob w0 b Br Bn Bc g o cap ch k r K wr
def BkRel (w0 : World) (b Br Bn Bc g o cap : Nat) (ch : List (List UInt8)) (M N : Nat) (iv : Value) (wr : World) : Prop :=
  ∃ (k : Nat) (r : Rv) (K : List Nat), iv = .int .i64 k ∧ k ≤ N ∧ Ob w0 b Br Bn Bc g o cap ch (M + k) r K wr ∧ ∀ j, N - k ≤ j → j < N → r.l.getD j false = true
set_option maxRecDepth 100000 in
set_option maxHeartbeats 4000000 in
theorem walk (a : Option Addr) (cap : Nat) (ch : List (List UInt8)) (a1 : Option Addr) (cap1 : Nat) (od : List UInt8) (w : World) (h : ArgN se w a cap ch) (h1 : ArgB w a1 cap1 od) (ht : Tab w) :
    Calls Tryd.prog 7 #[.slice a ch.length cap, .slice a1 od.length cap1] w fun e w' => e = .returned (.bool true) ∧ Keep w w' := by
  have HA := Lib.hid h
  have HB := Lib.hid h1
  have HT := Lib.hid ht
  obtain ⟨N, hN⟩ : ∃ N, ch.length = N := ⟨_, rfl⟩
  obtain ⟨M, hM⟩ : ∃ M, od.length = M := ⟨_, rfl⟩
  have HN := Lib.hid hN
  have HM := Lib.hid hM
  rw [hN, hM]
  have hmf : ∀ (fn : Fn) (first cap : Array Value) (w : World), (Instr.makeFunc fn first cap).run Tryd.prog w = .ok (.func fn first cap) w := fun _ _ _ _ => rfl
  have k2 : Keep w ((w.alloc (.cells #[.slice a N cap] 38)).alloc (.cells #[.int .i64 N] 3)) := ((Keep.refl w).alloc _).alloc _
  have bc2 : ((w.alloc (.cells #[.slice a N cap] 38)).alloc (.cells #[.int .i64 N] 3)).heap[w.heap.size]? = some (.cells #[.slice a N cap] 38 (0, 0)) := by
    rw [heap_alloc_old _ _ (by simp)]
    exact heap_alloc_new _ _
  have bn2 : ((w.alloc (.cells #[.slice a N cap] 38)).alloc (.cells #[.int .i64 N] 3)).heap[w.heap.size + 1]? = some (.cells #[.int .i64 N] 3 (0, 0)) := by
    have := heap_alloc_new (w.alloc (.cells #[.slice a N cap] 38)) (.cells #[.int .i64 N] 3)
    simpa using this
  have HK2 := Lib.hid (And.intro k2 (And.intro bc2 bn2))
  clear hM hN h h1 ht k2 bc2 bn2
  by_cases hyes : 1 ≤ N ∧ N ≤ 50 ∧ M ≤ 300
  rotate_left
  · rcases (show (N : Int) < 1 ∨ (¬ (N : Int) < 1 ∧ (N : Int) > 50) ∨ (¬ (N : Int) < 1 ∧ ¬ (N : Int) > 50 ∧ (M : Int) > 300) by omega) with c1 | ⟨c1, c2⟩ | ⟨c1, c2, c3⟩
    all_goals (
      clear hyes
      go_enter Tryd.func7, Tryd.ntmps7
      go_wp2_with fail
      refine (awake_at _ (HT.out.keep HK2.out.1)).mono ?_
      rintro e v1 ⟨rfl, q1⟩
      have HK := Lib.hid (HK2.out.1.trans q1)
      have e1 := cell_obj (q1.obj HK2.out.2.2) (i := 0) rfl
      clear q1
      go_wp2_with fail
      refine (awake_at v1 (HT.out.keep HK.out)).mono ?_
      rintro e v2 ⟨rfl, q2⟩
      have HK3 := Lib.hid (HK.out.trans q2)
      clear q2
      go_wp2
      go_ret
      exact ⟨rfl, HK3.out⟩)
  obtain ⟨h1, h50, h300⟩ := hyes
  have c1 : ¬ (N : Int) < 1 := by omega
  have c2 : ¬ (N : Int) > 50 := by omega
  have c3 : ¬ (M : Int) > 300 := by omega
  have hcs := HA.out.cells (by intro e; have := HN.out; rw [e] at this; simp at this; omega)
  obtain ⟨g, o, cp, hv, _, _, _⟩ := hcs.ptr 0 (by rw [HN.out]; omega)
  rw [HN.out] at hv
  injection hv with y1 y2 y3
  subst y1 y3
  have HS := Lib.hid (show TexS w (.slice (some ⟨g, o, none⟩) ch.length cap) ch from hcs)
  have HC := Lib.hid (And.intro h1 (And.intro h50 h300))
  clear hcs y2 HA h1 h50 h300
  go_enter Tryd.func7, Tryd.ntmps7
  go_wp2_with fail
  refine (awake_at _ (HT.out.keep HK2.out.1)).mono ?_
  rintro e v1 ⟨rfl, q1⟩
  have HK := Lib.hid (HK2.out.1.trans q1)
  have HBc := Lib.hid (q1.obj HK2.out.2.1)
  have HBn := Lib.hid (q1.obj HK2.out.2.2)
  have e1 := cell_obj HBn.out (i := 0) rfl
  have e2 := cell_obj HBc.out (i := 0) rfl
  have HSz := Lib.hid (show w.heap.size ≤ w.heap.size ∧ w.heap.size + 1 < v1.heap.size from ⟨Nat.le_refl _, block_lt HBn.out⟩)
  clear q1 HK2
  generalize w.heap.size = Bc at *
  go_wp2_with fail
  go_loopw [6, 37] (fun sv iv wr => AlRel v1 ch N sv iv wr) (fun _ iv _ => 60 - (intOf iv).toNat)
  case atStart => exact ⟨rfl, 0, rfl, Nat.zero_le _, rfl, fun i hi => by omega⟩
  case round =>
    obtain ⟨rfl, k, rfl, hk, rfl, hall⟩ := hrel
    have HL := Lib.hid hall
    have hN50 := HC.out.2.1
    clear hall
    by_cases hlt : k < N
    · obtain ⟨x, hx⟩ : ∃ x, ch.getD k [] = x := ⟨_, rfl⟩
      have hx2 : ch[k]? = some x := by rw [← hx, List.getD_eq_getElem?_getD, List.getElem?_eq_getElem (by rw [HN.out]; exact hlt)]; rfl
      have hcell : wr.cell? ⟨g, o + k, none⟩ = some (.string ⟨x.toArray⟩) := by
        have := TexS.text (l := ch) (HS.out.keep HK.out) k x hx2
        exact this
      have hbnd : (0 : Int) ≤ k ∧ (k : Int) < N := by omega
      by_cases hbig : 1000 < x.length
      · have hgt : (x.length : Int) > 1000 := by omega
        clear hbig
        go_wp2
        go_ret
        exact ⟨rfl, HK.out⟩
      have hgt : ¬ (x.length : Int) > 1000 := by omega
      have HR := Lib.hid (show AlRel wr ch N (.string ⟨(((ch.take k).flatten) ++ x).toArray⟩) (.int .i64 ((k + 1 : Nat) : Int)) wr from ⟨rfl, k + 1, rfl, by omega, by
        rw [List.take_add_one, hx2]; simp, fun i hi => by
        rcases Nat.lt_or_ge i k with h | h
        · exact HL.out i h
        · obtain rfl : i = k := by omega
          rw [hx]; omega⟩)
      have hp := flat_few ch k HL.out
      clear hbig hx hx2 HL
      generalize (ch.take k).flatten = p at *
      have hsum : ¬ p.length + x.length > 9223372036854775807 := by omega
      go_wp2
      go_roundw
      case rel => rw [ByteArray.mk_append_mk]; exact HR.out
      case measure => simp [intOf]; omega
    · obtain rfl : N = k := by omega
      have hfl : (ch.take N).flatten = ch.flatten := by rw [List.take_of_length_le (by rw [HN.out]; omega)]
      rw [hfl]
      have HFew := Lib.hid (show Few ch from ⟨by rw [HN.out]; exact HC.out.1, by rw [HN.out]; exact hN50, fun i => by
        rcases Nat.lt_or_ge i N with q | q
        · exact HL.out i q
        · rw [List.getD_eq_getElem?_getD, List.getElem?_eq_none (by rw [HN.out]; exact q)]; simp⟩)
      clear HL hfl hk hlt hN50
      obtain ⟨all, hal⟩ : ∃ x, ch.flatten = x := ⟨_, rfl⟩
      rw [hal]
      have HAl := Lib.hid hal
      clear hal
      go_wp2_with fail
      refine (znew 1 2 N (by have := HFew.out.may; rw [HN.out] at this; exact this) wr (HT.out.keep HK.out)).mono ?_
      rintro e v2 ⟨b, K0, rfl, z2, f2, q2⟩
      have ka : Keep v2 (v2.alloc (.cells #[.pointer (some ⟨b, 0, none⟩)] 24)) := (Keep.refl v2).alloc _
      have HOb := Lib.hid (show Ob w b v2.heap.size (Bc + 1) Bc g o cap ch 0 (newR 1 2 N) K0 (v2.alloc (.cells #[.pointer (some ⟨b, 0, none⟩)] 24)) from
        ⟨z2.keep ka, by rw [← HN.out]; exact Tk.new HFew.out, fun k hk hk2 => by
          have l1 := f2 k hk
          have l2 := z2.low k hk
          have l3 := (HS.out.keep HK.out).lt (g := g) rfl
          have l4 := HSz.out
          simp only [List.mem_cons, List.not_mem_nil, or_false] at hk2
          omega, f2.mono HK.out.size, (HK.out.trans q2).trans ka, heap_alloc_new _ _, by rw [HN.out]; exact ka.obj (q2.obj HBn.out), by rw [HN.out]; exact ka.obj (q2.obj HBc.out)⟩)
      clear z2 f2 q2 ka HBc HBn e1 e2 HSz
      go_wp2_with fail
      generalize v2.heap.size = Br at *
      go_loopw [56] (fun iv wr => OdRel w b Br (Bc + 1) Bc g o cap ch M iv wr) (fun iv _ => 310 - (intOf iv).toNat)
      case atStart => exact ⟨0, _, K0, rfl, Nat.zero_le _, HOb.out⟩
      case round =>
        clear HOb HK HT
        obtain ⟨k, r, K, rfl, hk, hob⟩ := hrel
        have HOb := Lib.hid hob
        have cn := hob.cn
        rw [HN.out] at cn
        have h300 := HC.out.2.2
        clear hob
        by_cases hlt : k < M
        · obtain ⟨x, hx⟩ : ∃ x, od[k]? = some x := ⟨_, List.getElem?_eq_getElem (by rw [HM.out]; exact hlt)⟩
          have hc := (HB.out.keep HOb.out.keep).cells (by intro q; rw [q] at hx; simp at hx)
          obtain ⟨g1, o1, cp1, hv, _, _, _⟩ := hc.ptr k (by rw [HM.out]; exact hlt)
          rw [HM.out] at hv
          injection hv with y1 y2 y3
          subst y1 y3
          have hb := Cells.byte hc k x hx
          have hbnd : (0 : Int) ≤ k ∧ (k : Int) < M := by omega
          have hn0 : ¬ (N : Int) = 0 := by omega
          have hlt8 := x.toNat_lt
          clear hc y2 hx
          generalize x.toNat = X at *
          have HTk := Lib.hid (HOb.out.take HFew.out HS.out (X % N) (by rw [HN.out]; exact Nat.mod_lt _ HC.out.1) (by omega))
          have hrem : Int.tmod (X : Int) (N : Int) = ((X % N : Nat) : Int) := rfl
          go_wp2_with fail
          try rw [hrem]
          refine HTk.out.mono ?_
          rintro e w2 ⟨rfl, K', hob⟩
          have HOb2 := Lib.hid hob
          clear hob HTk HOb cn hb
          go_wp2
          go_roundw
          case rel => exact ⟨k + 1, _, K', by go_num, by omega, HOb2.out⟩
          case measure => simp [intOf]; omega
        · obtain rfl : M = k := by omega
          have H0 := Lib.hid (show BkRel w b Br (Bc + 1) Bc g o cap ch M N (.int .i64 ((0 : Nat) : Int)) wr from ⟨0, r, K, rfl, Nat.zero_le _, HOb.out, fun j h1 h2 => by omega⟩)
          clear HOb hk hlt h300
          go_wp2_with fail
          go_loopw [68] (fun iv wr => BkRel w b Br (Bc + 1) Bc g o cap ch M N iv wr) (fun iv _ => 60 - (intOf iv).toNat)
          case atStart => exact H0.out
          case round =>
            clear H0
            obtain ⟨k, r, K, rfl, hk, hob, hall⟩ := hrel
            have HOb := Lib.hid hob
            have HAll := Lib.hid hall
            have cn := hob.cn
            rw [HN.out] at cn
            have h50 := HC.out.2.1
            clear hob hall
            by_cases hlt : k < N
            · have HTk := Lib.hid (HOb.out.take HFew.out HS.out (N - 1 - k) (by rw [HN.out]; omega) (by have := HC.out; omega))
              have HSet := Lib.hid (show ∀ j, N - (k + 1) ≤ j → j < N → (r.take (oF ch (N - 1 - k))).l.getD j false = true from fun j h1 h2 => by
                have ht := HOb.out.tk.take HFew.out (show N - 1 - k < ch.length by rw [HN.out]; omega)
                by_cases e : j = N - 1 - k
                · rw [e]; exact ht.2.1
                · exact ht.2.2 j (HAll.out j (by omega) h2))
              have hsub : (N : Int) - 1 - k = ((N - 1 - k : Nat) : Int) := by omega
              go_wp2_with fail
              refine HTk.out.mono ?_
              rintro e w2 ⟨rfl, K', hob⟩
              have HOb2 := Lib.hid hob
              clear hob HTk HOb cn
              go_wp2
              go_roundw
              case rel => exact ⟨k + 1, _, K', by go_num, by omega, HOb2.out, HSet.out⟩
              case measure => simp [intOf]; omega
            · obtain rfl : N = k := by omega
              have HEnd := Lib.hid (HOb.out.tk.all fun i hi => HAll.out i (by omega) (by rw [← HN.out]; exact hi))
              obtain ⟨f1, f2, f3, f4, f5⟩ := HEnd.out
              have f6 : r.d 9 = M := by have := HN.out; omega
              have hz := HOb.out.z
              have HD := Lib.hid (zdata hz)
              rw [f2, HAl.out, f3] at HD
              have HDn := Lib.hid (fun v (q : Keep wr v) => zdone (hz.keep q))
              rw [decide_eq_true f1] at HDn
              have HDr := Lib.hid (fun v (q : Keep wr v) => zdrops 9 (hz.keep q))
              rw [f6] at HDr
              have HTh := Lib.hid (fun v (q : Keep wr v) => zthere (hz.keep q))
              have HN1 := Lib.hid (fun v c (m : Go.Proofs.YtifcibmpeolmdaaDoor.M v c r.l) => count_at c r.l v m)
              rw [f4, HN.out] at HN1
              have HC0 := Lib.hid (fun v (q : Keep wr v) => (show v.cell? ⟨Br, 0, none⟩ = some (.pointer (some ⟨b, 0, none⟩)) ∧ v.cell? ⟨Bc + 1, 0, none⟩ = some (.int .i64 N) from by
                have h1 := (HOb.out.kept q).cn
                rw [HN.out] at h1
                exact ⟨(HOb.out.kept q).cr, h1⟩))
              have HK := Lib.hid HOb.out.keep
              have cr := HOb.out.cr
              clear f1 f2 f3 f4 f5 f6 hz HEnd HOb HAll hk hlt h50 HC HFew HS HB HAl HN HM
              go_wp2_with fail
              refine HD.out.mono ?_
              rintro e u1 ⟨rfl, q1⟩
              have Q1 := Lib.hid q1
              clear q1 HD cr cn
              have HDn1 := Lib.hid (fun v (q : Keep u1 v) => HDn.out v (Q1.out.trans q))
              have HDr1 := Lib.hid (fun v (q : Keep u1 v) => HDr.out v (Q1.out.trans q))
              have HTh1 := Lib.hid (fun v (q : Keep u1 v) => HTh.out v (Q1.out.trans q))
              have HCC := Lib.hid (fun v (q : Keep u1 v) => HC0.out v (Q1.out.trans q))
              clear HDn HDr HTh HC0
              go_wp2_with fail
              generalize u1 = wc at *
              have cn0 := HCC.out wc.drew (Keep.refl wc).drew
              have cna := HCC.out (wc.drewN 1) ((Keep.refl wc).drewN 1)
              first | go_region_held_law (fun w' => w'.cell? ⟨Br, 0, none⟩ = some (.pointer (some ⟨b, 0, none⟩)) ∧ w'.cell? ⟨Bc + 1, 0, none⟩ = some (.int .i64 N)) (first | exact HCC.out _ k3 | exact HCC.out _ k1 | exact HCC.out _ (Keep.refl wc).drew | exact HCC.out _ ((Keep.refl wc).drewN 1) | exact HCC.out _ (Keep.refl wc)) (first | (go_at_call 18; refine (HDn1.out _ (by first | exact (Keep.refl wc).drew | exact (Keep.refl wc).drewN 1 | exact Keep.refl wc)).mono ?_; rintro e v1 ⟨rfl, q1⟩; have k1 : Keep wc v1 := Keep.trans (by first | exact (Keep.refl wc).drew | exact (Keep.refl wc).drewN 1 | exact Keep.refl wc) q1) | (go_at_call 20; refine (HDr1.out _ k1).mono ?_; rintro e v2 ⟨rfl, rfl⟩) | (go_at_call 25; refine (HTh1.out _ k1).mono ?_; rintro e v3 ⟨c5, rfl, hc5, m5, q3⟩; have k3 : Keep wc v3 := Keep.trans k1 q3) | (go_at_call 26; refine (HN1.out _ c5 m5).mono ?_; rintro e v4 ⟨rfl, rfl⟩)) | fail
              have HK9 := Lib.hid (HK.out.trans (Q1.out.trans k3))
              clear k1 k3 q1 q3 m5 hc5 cn0 cna
              go_wp2
              go_ret
              exact ⟨rfl, HK9.out⟩

open Go.ChangeShapes Go.WideShapes Go.ChangeAt
set_option maxRecDepth 100000 in
theorem lifted (os : Os) (started : os.Started) (H : Type) (enc : TypeId × Value → H) :
    ReturnsInHanded {} Tryd.checked os 7 .any (fun w args => (Rows.receiverOrderSpec.pre enc Tryd.prog Tryd.f7 [] false w args ∧ laidMetH Tryd.prog laid1 w) ∧ sizedMet enc Tryd.prog Tryd.f7 (OpenSpec.ofChange Rows.receiverOrderSpec) false w args)
      (Rows.receiverOrderSpec.post enc Tryd.prog Tryd.f7 false true false false) := by
  refine returnsInHanded_of_change_and (C := Tryd.checked) (X := fun w _ => laidMetH Tryd.prog laid1 w) (fun _ _ _ hh h => h.of_heap hh) own started (by kernel_rfl) Tryd.func7
    (ChangeSpec.witness_shaped (enc := enc) (C := Tryd.checked) (os := os) (X := fun w _ => laidMetH Tryd.prog laid1 w) false (World.doorLaid Tryd.prog 400 os) #[.slice none 0 0, .slice none 0 0] 8 rfl (World.shaped_of_RefB (by kernel_rfl) (by kernel_rfl)) (by kernel_rfl) (by kernel_rfl) (by kernel_rfl) (door_met os _)) ?_
  intro W base args ds gs before hval0 hW _ _ hL _
  have hval : ∀ (j : Nat) t v, Tryd.f7.params[j]? = some t → args[j]? = some v → Value.okWide Tryd.prog W .any base t v := hval0
  have hW' := hW
  obtain ⟨p, q, hA0, hV, rfl, hfz, hnd⟩ := hW
  have hA : DataW.TrodAll enc Tryd.prog W 0 (fun _ => true) true Tryd.f7.params.toList args.toList ds p := hA0

  rw [Tryd.params7] at hA hval
  obtain ⟨v0, vs0, d0, ds0, p0, q0, hargs, rfl, rfl, h0, r0⟩ := trodAll_cons hA
  obtain ⟨v1, vs1, d1, ds1, p1, q1, rfl, rfl, rfl, h1, r1⟩ := trodAll_cons r0
  obtain ⟨rfl, rfl, rfl⟩ := trodAll_nil r1
  obtain rfl : args = #[v0, v1] := by cases args; simp_all
  obtain ⟨rfl, rfl⟩ := trodVars_none hV
  have k0 := h0
  have lt0 : ∀ x ∈ p0, x.block < W.heap.size := by obtain ⟨m, hm⟩ := k0; exact DataW.trod_lt m _ _ _ hm
  have k1 := h1
  have lt1 : ∀ x ∈ p1, x.block < W.heap.size := by obtain ⟨m, hm⟩ := k1; exact DataW.trod_lt m _ _ _ hm
  obtain ⟨a0, cap0, l0, rfl, f0⟩ := open_texts (hval 0 38 v0 rfl rfl) h0
  obtain ⟨a1, cap1, l1, rfl, f1⟩ := open_bytes (hval 1 60 v1 rfl rfl) h1
  clear hA0 hval0
  refine (walk a0 cap0 l0 a1 cap1 l1 W f0 f1 (of_laid hL)).mono fun e W' ⟨he, bel0⟩ => ?_
  subst he
  have bel : Below W.heap.size W W' := bel0
  exact ⟨_, rfl, _, _, _, [], _, [], hW', trodAll_mk1 (shut_bool Tryd.underlying4 _), (trodAll_cons_mk (Below.trod laidOut (by kernel_rfl) (of_decide_eq_true (by kernel_rfl)) k0 bel lt0) (trodAll_cons_mk (Below.trod laidOut (by kernel_rfl) (of_decide_eq_true (by kernel_rfl)) k1 bel lt1) trodAll_mk0)), rfl, bel.frame _, fun h => by cases h⟩

theorem over : Rows.receiverOrderRow.holds Tryd.pinned (OpenSpec.ofChange Rows.receiverOrderSpec) :=
  OpenClaim.holds_of_wide 7 Tryd.f7 rfl rfl rfl rfl rfl rfl rfl ⟨rfl, rfl, rfl, rfl, rfl⟩ rfl rfl rfl rfl rfl (by kernel_rfl) Tryd.func7 (by kernel_rfl)
    (of_decide_eq_true (by kernel_rfl)) (by unfold Func.isWrapper; first | (rw [if_pos (by decide +kernel)]; kernel_rfl) | (rw [if_neg (by decide +kernel)]; exact ⟨rfl, rfl⟩))
    (fun os started H enc _ => lifted os started H enc)
theorem card : Claim7.holds Tryd.pinned (.plain (OpenSpec.ofChange Rows.receiverOrderSpec)) Rows.receiverOrderCard :=
  Claim7.holds_tied_plain_at .later [] [.data] true (true, "9f1138924d784bfed17d71e72dd25563e285159175c97e71dd8c43ba71e9644f") false
    over (fun _ h => by cases h) (by kernel_rfl) (fun _ h => by cases h) receiverOrder_row_tie rfl ⟨rfl, rfl⟩ (by kernel_rfl) rfl
    (fun f fn hf hfn => by
      obtain rfl : f = 7 := Option.some.inj ((show Tryd.prog.funcNamed Rows.receiverOrderRow.func = some 7 by kernel_rfl).symm.trans hf) |>.symm
      obtain rfl : fn = Tryd.f7 := (Option.some.inj (Tryd.func7.symm.trans hfn)).symm
      exact ⟨by kernel_rfl, fun j t ht => by
        rw [Tryd.params7] at ht
        have hm : t ∈ [38, 60] := by simpa using Array.mem_of_getElem? ht
        have hall : ([38, 60].all fun u => !Tryd.prog.wantsStandIn u) = true := by kernel_rfl
        exact (show Tryd.prog.wantsStandIn t = false by simpa using List.all_eq_true.1 hall t hm)⟩)
    (by kernel_rfl)
end Go.Proofs.YtifcibmpeolmdaaDoor.LReceiverOrder

namespace Go.Proofs.YtifcibmpeolmdaaDoor
theorem receiverOrder_holds : Rows.ReceiverOrderCardSaid := LReceiverOrder.card
#print axioms receiverOrder_holds
end Go.Proofs.YtifcibmpeolmdaaDoor

