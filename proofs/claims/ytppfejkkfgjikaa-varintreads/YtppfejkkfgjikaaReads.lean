/- Proved: for every text and every list of calls the law VarintReads returns true (what is taken, what is left, and what was wrong first, is the document's), and its arguments read behind the call as they read before. No condition. -/
import Derived.Test.YtppfejkkfgjikaaO
import Derived.Test.YtppfejkkfgjikaaQ
import Derived.ShutString
import Derived.ChangeOld
import Derived.Deep.RegionHeld3
namespace Go.Proofs.Ytppfejkkfgjikaa.LVarintReads
open Go.RowKit

theorem Rd.drewN {w : World} {b : Nat} {l : List UInt8} {x : Int} (h : Rd w b l x) (n : Nat) : Rd (w.drewN n) b l x := ⟨h.rest, h.err, h.free0, h.free1, h.len⟩

def Rel (w : World) (b c len : Nat) (i : Value) (wr : World) : Prop :=
  ∃ (k : Nat) (l : List UInt8) (x : Int), k ≤ len ∧ i = .int .i64 k ∧ Rd wr b l x ∧ Rd wr c l x ∧ Below w.heap.size w wr

theorem boxed (w : World) (s : List UInt8) (hs : s.length ≤ maxLen) : Rd (w.alloc (.cells #[.string ⟨s.toArray⟩, .int .i64 0] 49)) w.heap.size s 0 :=
  ⟨by go_simp, by go_simp, by go_simp, by go_simp, hs⟩

set_option maxRecDepth 100000 in
set_option maxHeartbeats 2000000 in
theorem walk (s : List UInt8) (a : Option Addr) (len cap : Nat) (o : Nat → Opv) (w : World) (hs : s.length ≤ 9223372036854775807) (ho : OpsAt w a len o) :
    Calls Try.prog 4 #[.string ⟨s.toArray⟩, .slice a len cap] w fun e w' => e = .returned (.bool true) ∧ Below w.heap.size w w' := by
  by_cases hbig : 3000 < s.length ∨ 200 < len
  · by_cases h5 : 3000 < s.length
    · go_enter Try.func4, Try.ntmps4
      go_wp2_with fail
      refine (awake_at w).mono ?_
      rintro e w1 ⟨rfl, b1⟩
      go_wp2_with fail
      refine (awake_at w1).mono ?_
      rintro e w2 ⟨rfl, k2⟩
      have b2 := bMore b1 k2 (Nat.le_refl _)
      clear b1 k2
      go_wp2
      go_ret
      exact ⟨rfl, b2⟩
    · have h1 : 200 < len := by omega
      go_enter Try.func4, Try.ntmps4
      go_wp2_with fail
      refine (awake_at w).mono ?_
      rintro e w1 ⟨rfl, b1⟩
      go_wp2_with fail
      refine (awake_at w1).mono ?_
      rintro e w2 ⟨rfl, k2⟩
      have b2 := bMore b1 k2 (Nat.le_refl _)
      clear b1 k2
      go_wp2
      go_ret
      exact ⟨rfl, b2⟩
  · have h5 : s.length ≤ 3000 := by omega
    have h1 : len ≤ 200 := by omega
    clear hbig
    go_enter Try.func4, Try.ntmps4
    go_wp2_with fail
    refine (awake_at w).mono ?_
    rintro e w1 ⟨rfl, b1⟩
    go_wp2_with fail
    refine (newreader s w1 (by unfold maxLen; omega)).mono ?_
    rintro e w2 ⟨b, rfl, hbb, q2, k2⟩
    have b2 := bMore b1 k2 (Nat.le_refl _)
    have hb2 : w.heap.size ≤ b := by have := b1.size; omega
    have hc2 : w.heap.size ≤ w2.heap.size := b2.size
    have hbc : b ≠ w2.heap.size := by have := q2.lt; omega
    clear hbb k2 b1
    have q0 := boxed w2 s (by unfold maxLen; omega)
    have p0 := q2.below ((Below.refl w2.heap.size w2).alloc (Nat.le_refl _) (.cells #[.string ⟨s.toArray⟩, .int .i64 0] 49))
    have l0 := bMore b2 ((Below.refl w2.heap.size w2).alloc (Nat.le_refl _) (.cells #[.string ⟨s.toArray⟩, .int .i64 0] 49)) (Nat.le_refl _)
    have P0 := Lib.hid p0
    have Q0 := Lib.hid q0
    have L0 := Lib.hid l0
    clear p0 q0 l0 q2 b2
    go_wp2
    go_loopw [30] (fun i wr => Rel w b w2.heap.size len i wr) (fun i _ => len - (intOf i).toNat)
    case atStart => exact ⟨0, s, 0, Nat.zero_le _, rfl, P0.out, Q0.out, L0.out⟩
    case round =>
      clear P0 Q0 L0
      generalize w2.heap.size = c at *
      obtain ⟨k, l, x, hk, rfl, hp, hq, hbel⟩ := hrel
      by_cases hlt : k < len
      · obtain ⟨g, off, ha, hg, hc⟩ := (ho.below hbel).cells k hlt
        have hok := ho.ok k hlt
        generalize o k = op at *
        have c0 := hc.kd
        have c1 := hc.n
        have c2 := hc.u
        have c3 := hc.s
        subst ha
        have x0 := BoxOp.box wr op
        have p0 := hp.below (BoxOp.below wr op)
        have q0 := hq.below (BoxOp.below wr op)
        have l0 := bMore hbel (BoxOp.below wr op) (Nat.le_refl _)
        have hgb : wr.heap.size ≠ b := by have := hp.lt; omega
        have hgc : wr.heap.size ≠ c := by have := hq.lt; omega
        have X0 := Lib.hid x0
        clear x0 hp hq hbel hc
        by_cases hk1 : op.kd = 1
        · have hk1' : (op.kd == 1) = true := by simpa using hk1
          clear hk1
          go_wp2_with fail
          refine (byte_at b l x (BoxOp wr op) p0).mono ?_
          rintro e w4 ⟨rfl, p1, o1⟩
          have q1 := q0.other o1 (Ne.symm hbc) q0.lt
          have l1 := bOnly l0 o1 hb2 (Nat.le_refl _)
          clear p0 q0 l0 o1 c0 c1 c2 c3
          go_wp2_with fail
          refine (qbyte_at c l x w4 q1).mono ?_
          rintro e w5 ⟨rfl, q2, o2⟩
          have p2 := p1.other o2 hbc p1.lt
          have l2 := bOnly l1 o2 hc2 (Nat.le_refl _)
          clear p1 q1 l1 o2
          generalize V.byteF l x = r at *
          obtain ⟨v, l', x'⟩ := r
          dsimp only at *
          have hvv : ((v.toNat : Int) == (v.toNat : Int)) = true := by simp
          have hE := q2.err
          have hS := q2.rest
          have hxx : (x' != x') = false := by simp
          have hll : ((l'.length : Int) != (l'.length : Int)) = false := by simp
          go_wp2_with fail
          go_quiet ((first | (go_at_call 26; exact Calls.quiet_of_same ((err_rd b _ _ _ (Rd.drewN p2 _)).mono fun _ _ h => ⟨h.1, h.2.symm⟩)) | (go_at_call 33; exact Calls.quiet_of_same ((left_at b _ _ (Rd.drewN p2 _).rest).mono fun _ _ h => ⟨h.1, h.2.symm⟩))))
          go_wp2
          go_roundw
          case rel => exact ⟨k + 1, _, _, by omega, by go_num, Rd.drewN p2 _, Rd.drewN q2 _, below_drewN l2 _⟩
          case measure => simp [intOf]; omega
        · skip
          by_cases hk2 : op.kd = 2
          · have hk1' : (op.kd == 1) = false := by simpa using hk1
            have hk2' : (op.kd == 2) = true := by simpa using hk2
            clear hk1 hk2
            go_wp2_with fail
            refine (uint_at b l x (BoxOp wr op) p0).mono ?_
            rintro e w4 ⟨rfl, p1, o1⟩
            have q1 := q0.other o1 (Ne.symm hbc) q0.lt
            have l1 := bOnly l0 o1 hb2 (Nat.le_refl _)
            clear p0 q0 l0 o1 c0 c1 c2 c3
            go_wp2_with fail
            refine (quint_at c l x w4 q1).mono ?_
            rintro e w5 ⟨rfl, q2, o2⟩
            have p2 := p1.other o2 hbc p1.lt
            have l2 := bOnly l1 o2 hc2 (Nat.le_refl _)
            clear p1 q1 l1 o2
            generalize V.uintF l x = r at *
            obtain ⟨v, l', x'⟩ := r
            dsimp only at *
            have hvv : ((v : Int) == (v : Int)) = true := by simp
            have hE := q2.err
            have hS := q2.rest
            have hxx : (x' != x') = false := by simp
            have hll : ((l'.length : Int) != (l'.length : Int)) = false := by simp
            go_wp2_with fail
            go_quiet ((first | (go_at_call 26; exact Calls.quiet_of_same ((err_rd b _ _ _ (Rd.drewN p2 _)).mono fun _ _ h => ⟨h.1, h.2.symm⟩)) | (go_at_call 33; exact Calls.quiet_of_same ((left_at b _ _ (Rd.drewN p2 _).rest).mono fun _ _ h => ⟨h.1, h.2.symm⟩))))
            go_wp2
            go_roundw
            case rel => exact ⟨k + 1, _, _, by omega, by go_num, Rd.drewN p2 _, Rd.drewN q2 _, below_drewN l2 _⟩
            case measure => simp [intOf]; omega
          · skip
            by_cases hk3 : op.kd = 3
            · have hk1' : (op.kd == 1) = false := by simpa using hk1
              have hk2' : (op.kd == 2) = false := by simpa using hk2
              have hk3' : (op.kd == 3) = true := by simpa using hk3
              clear hk1 hk2 hk3
              go_wp2_with fail
              refine (int_at b l x (BoxOp wr op) p0).mono ?_
              rintro e w4 ⟨rfl, p1, o1⟩
              have q1 := q0.other o1 (Ne.symm hbc) q0.lt
              have l1 := bOnly l0 o1 hb2 (Nat.le_refl _)
              clear p0 q0 l0 o1 c0 c1 c2 c3
              go_wp2_with fail
              refine (qint_at c l x w4 q1).mono ?_
              rintro e w5 ⟨rfl, q2, o2⟩
              have p2 := p1.other o2 hbc p1.lt
              have l2 := bOnly l1 o2 hc2 (Nat.le_refl _)
              clear p1 q1 l1 o2
              generalize V.intF l x = r at *
              obtain ⟨v, l', x'⟩ := r
              dsimp only at *
              have hvv : (v == v) = true := by simp
              have hE := q2.err
              have hS := q2.rest
              have hxx : (x' != x') = false := by simp
              have hll : ((l'.length : Int) != (l'.length : Int)) = false := by simp
              go_wp2_with fail
              go_quiet ((first | (go_at_call 26; exact Calls.quiet_of_same ((err_rd b _ _ _ (Rd.drewN p2 _)).mono fun _ _ h => ⟨h.1, h.2.symm⟩)) | (go_at_call 33; exact Calls.quiet_of_same ((left_at b _ _ (Rd.drewN p2 _).rest).mono fun _ _ h => ⟨h.1, h.2.symm⟩))))
              go_wp2
              go_roundw
              case rel => exact ⟨k + 1, _, _, by omega, by go_num, Rd.drewN p2 _, Rd.drewN q2 _, below_drewN l2 _⟩
              case measure => simp [intOf]; omega
            · skip
              by_cases hk4 : op.kd = 4
              · have hk1' : (op.kd == 1) = false := by simpa using hk1
                have hk2' : (op.kd == 2) = false := by simpa using hk2
                have hk3' : (op.kd == 3) = false := by simpa using hk3
                have hk4' : (op.kd == 4) = true := by simpa using hk4
                clear hk1 hk2 hk3 hk4
                have cn := (BoxOp.box wr op).n
                go_wp2_with fail
                go_region_held3 (fun w' => w'.cell? ⟨wr.heap.size, 1, none⟩ = some (.int .i64 op.n)) (first | exact cn1 | exact cn2 | exact cn) (first | (go_at_call 24; refine (text_at b l x op.n _ (Rd.drewN p0 1) hok.n).mono ?_; rintro e w4 ⟨rfl, p1, o1⟩; have q1 := (Rd.drewN q0 1).other o1 (Ne.symm hbc) q0.lt; have l1 := bOnly (below_drewN l0 1) o1 hb2 (Nat.le_refl _); have X1 := ((BoxOp.box wr op).below (below_drewN (Below.refl _ _) 1)).only o1 hgb; have cn1 := X1.n; clear o1) | (go_at_call 31; refine (qtext_at c l x op.n _ q1 hok.n).mono ?_; rintro e w5 ⟨rfl, q2, o2⟩; have p2 := p1.other o2 hbc p1.lt; have l2 := bOnly l1 o2 hc2 (Nat.le_refl _); have cn2 := (X1.only o2 hgc).n; clear o2))
                clear cn
                generalize V.textF l x op.n = r at *
                obtain ⟨v, l', x'⟩ := r
                dsimp only at *
                have hvv : (v == v) = true := by simp
                have hE := q2.err
                have hS := q2.rest
                have hxx : (x' != x') = false := by simp
                have hll : ((l'.length : Int) != (l'.length : Int)) = false := by simp
                go_wp2_with fail
                go_quiet ((first | (go_at_call 26; exact Calls.quiet_of_same ((err_rd b _ _ _ (Rd.drewN p2 _)).mono fun _ _ h => ⟨h.1, h.2.symm⟩)) | (go_at_call 33; exact Calls.quiet_of_same ((left_at b _ _ (Rd.drewN p2 _).rest).mono fun _ _ h => ⟨h.1, h.2.symm⟩))))
                go_wp2
                go_roundw
                case rel => exact ⟨k + 1, _, _, by omega, by go_num, Rd.drewN p2 _, Rd.drewN q2 _, below_drewN l2 _⟩
                case measure => simp [intOf]; omega
              · skip
                by_cases hk5 : op.kd = 5
                · have hk1' : (op.kd == 1) = false := by simpa using hk1
                  have hk2' : (op.kd == 2) = false := by simpa using hk2
                  have hk3' : (op.kd == 3) = false := by simpa using hk3
                  have hk4' : (op.kd == 4) = false := by simpa using hk4
                  have hk5' : (op.kd == 5) = true := by simpa using hk5
                  clear hk1 hk2 hk3 hk4 hk5
                  have cn := (BoxOp.box wr op).n
                  go_wp2_with fail
                  go_region_held3 (fun w' => w'.cell? ⟨wr.heap.size, 1, none⟩ = some (.int .i64 op.n)) (first | exact cn1 | exact cn2 | exact cn) (first | (go_at_call 25; refine (raw_at b op.n l x _ (Rd.drewN p0 1)).mono ?_; rintro e w4 ⟨rfl, p1, o1⟩; have q1 := (Rd.drewN q0 1).other o1 (Ne.symm hbc) q0.lt; have l1 := bOnly (below_drewN l0 1) o1 hb2 (Nat.le_refl _); have X1 := ((BoxOp.box wr op).below (below_drewN (Below.refl _ _) 1)).only o1 hgb; have cn1 := X1.n; clear o1) | (go_at_call 32; refine (qraw_at c op.n l x _ q1).mono ?_; rintro e w5 ⟨rfl, q2, o2⟩; have p2 := p1.other o2 hbc p1.lt; have l2 := bOnly l1 o2 hc2 (Nat.le_refl _); have cn2 := (X1.only o2 hgc).n; clear o2))
                  clear cn
                  generalize V.rawF l x op.n = r at *
                  obtain ⟨v, l', x'⟩ := r
                  dsimp only at *
                  have hvv : (v == v) = true := by simp
                  have hE := q2.err
                  have hS := q2.rest
                  have hxx : (x' != x') = false := by simp
                  have hll : ((l'.length : Int) != (l'.length : Int)) = false := by simp
                  go_wp2_with fail
                  go_quiet ((first | (go_at_call 26; exact Calls.quiet_of_same ((err_rd b _ _ _ (Rd.drewN p2 _)).mono fun _ _ h => ⟨h.1, h.2.symm⟩)) | (go_at_call 33; exact Calls.quiet_of_same ((left_at b _ _ (Rd.drewN p2 _).rest).mono fun _ _ h => ⟨h.1, h.2.symm⟩))))
                  go_wp2
                  go_roundw
                  case rel => exact ⟨k + 1, _, _, by omega, by go_num, Rd.drewN p2 _, Rd.drewN q2 _, below_drewN l2 _⟩
                  case measure => simp [intOf]; omega
                · skip
                  have hk1' : (op.kd == 1) = false := by simpa using hk1
                  have hk2' : (op.kd == 2) = false := by simpa using hk2
                  have hk3' : (op.kd == 3) = false := by simpa using hk3
                  have hk4' : (op.kd == 4) = false := by simpa using hk4
                  have hk5' : (op.kd == 5) = false := by simpa using hk5
                  clear hk1 hk2 hk3 hk4 hk5
                  have p2 := p0
                  have q2 := q0
                  have l2 := l0
                  have hE := q2.err
                  have hS := q2.rest
                  have hxx : (x != x) = false := by simp
                  have hll : ((l.length : Int) != (l.length : Int)) = false := by simp
                  have HW : Hid (wr.alloc (.cells #[.int .i64 op.kd, .int .i64 op.n, .int .u64 op.u, .string ⟨op.s.toArray⟩] 29) = BoxOp wr op) := rfl
                  go_wp2_with fail
                  rw [HW.out]
                  clear p0 q0 l0 X0 HW
                  generalize BoxOp wr op = W2 at *
                  go_quiet ((first | (go_at_call 26; exact Calls.quiet_of_same ((err_rd b _ _ _ (Rd.drewN p2 _)).mono fun _ _ h => ⟨h.1, h.2.symm⟩)) | (go_at_call 33; exact Calls.quiet_of_same ((left_at b _ _ (Rd.drewN p2 _).rest).mono fun _ _ h => ⟨h.1, h.2.symm⟩))))
                  go_wp2
                  go_roundw
                  case rel => exact ⟨k + 1, _, _, by omega, by go_num, Rd.drewN p2 _, Rd.drewN q2 _, below_drewN l2 _⟩
                  case measure => simp [intOf]; omega
      · have hE := hq.err
        have hS := hq.rest
        by_cases hx : x = 0
        · subst hx
          have hp1 : Calls Try.prog 27 #[.pointer (some ⟨b, 0, none⟩)] wr fun e w' => e = .returned (.int .i64 (V.doneF l 0)) ∧ w' = wr := (done_at b l 0 wr hp).mono fun _ _ h => ⟨h.1, h.2.symm⟩
          have Hp := Lib.hid hp
          clear hp1
          by_cases hl : l = []
          · subst hl
            have hdd : ∀ n, Calls Try.prog 27 #[.pointer (some ⟨b, 0, none⟩)] (wr.drewN n) fun e w' => e = .returned (.int .i64 0) ∧ w' = wr.drewN n := fun n => (done_at b [] 0 _ (Rd.drewN hp n)).mono fun _ _ h => ⟨h.1, h.2.symm⟩
            have HD := Lib.hid hdd
            clear hdd hp hq
            go_wp2_with fail
            go_quiet ((go_at_call 27; exact Calls.quiet_of_same (HD.out _)))
            go_wp2
            go_ret
            exact ⟨rfl, below_drewN hbel _⟩
          · have hdd : ∀ n, Calls Try.prog 27 #[.pointer (some ⟨b, 0, none⟩)] (wr.drewN n) fun e w' => e = .returned (.int .i64 4) ∧ w' = wr.drewN n := fun n => (done_at b l 0 _ (Rd.drewN hp n)).mono fun _ _ h => ⟨h.1.trans (by unfold V.doneF; rw [if_neg (by simp), if_pos (List.length_pos_iff.2 hl)]), h.2.symm⟩
            have HD := Lib.hid hdd
            have hl1 : (l == []) = false := beq_eq_false_iff_ne.2 hl
            have hl2 : l.isEmpty = false := by simpa using hl
            clear hdd hp hq hl
            go_wp2_with fail
            go_quiet ((go_at_call 27; exact Calls.quiet_of_same (HD.out _)))
            go_wp2
            go_ret
            exact ⟨rfl, below_drewN hbel _⟩
        · have hdd : ∀ n, Calls Try.prog 27 #[.pointer (some ⟨b, 0, none⟩)] (wr.drewN n) fun e w' => e = .returned (.int .i64 x) ∧ w' = wr.drewN n := fun n => (done_at b l x _ (Rd.drewN hp n)).mono fun _ _ h => ⟨h.1.trans (by unfold V.doneF; rw [if_pos hx]), h.2.symm⟩
          have HD := Lib.hid hdd
          have hx1 : (x != 0) = true := by simpa using hx
          have hx2 : (x == x) = true := by simp
          clear hdd hp hq hx
          go_wp2_with fail
          go_quiet ((go_at_call 27; exact Calls.quiet_of_same (HD.out _)))
          go_wp2
          go_ret
          exact ⟨rfl, below_drewN hbel _⟩


open Go.ChangeShapes Go.WideShapes Go.ChangeAt
theorem own : ownKnob Try.prog.godebug = none := by kernel_rfl
theorem laidOut : laidOutB Try.prog = true := by kernel_rfl

set_option maxRecDepth 100000 in
theorem lifted (os : Os) (started : os.Started) (H : Type) (enc : TypeId × Value → H) :
    ReturnsInHanded {} Try.checked os 4 .any (Rows.varintReadsSpec.pre6 enc Try.prog Try.f4 Rows.varintReadsRow.domain false) (Rows.varintReadsSpec.post enc Try.prog Try.f4 false true false false) := by
  refine returnsInHanded_of_change (C := Try.checked) own started (by kernel_rfl) Try.func4
    (ChangeSpec.witness6 (enc := enc) (C := Try.checked) false ⟨#[], #[.string ⟨#[]⟩, .slice none 0 0], []⟩ 8 (by kernel_rfl) (by kernel_rfl) (by kernel_rfl) (by kernel_rfl)) ?_
  intro W base args ds gs before hval0 hW hcnd _
  have hval : ∀ (j : Nat) t v, Try.f4.params[j]? = some t → args[j]? = some v → Value.okWide Try.prog W .any base t v := hval0
  have hW' := hW
  obtain ⟨p, q, hA0, hV, rfl, hfz, hnd⟩ := hW
  have hA : DataW.TrodAll enc Try.prog W 0 (fun _ => true) true Try.f4.params.toList args.toList ds p := hA0
  rw [Try.params4] at hA hval
  obtain ⟨v0, vs0, d0, ds0, p0, q0, hargs, rfl, rfl, h0, r0⟩ := trodAll_cons hA
  obtain ⟨v1, vs1, d1, ds1, p1, q1, rfl, rfl, rfl, h1, r1⟩ := trodAll_cons r0
  obtain ⟨rfl, rfl, rfl⟩ := trodAll_nil r1
  obtain rfl : args = #[v0, v1] := by cases args; simp_all
  obtain ⟨rfl, rfl⟩ := trodVars_none hV
  have k0 := h0
  have lt0 : ∀ x ∈ p0, x.block < W.heap.size := by obtain ⟨m, hm⟩ := k0; exact DataW.trod_lt m _ _ _ hm
  have k1 := h1
  have lt1 : ∀ x ∈ p1, x.block < W.heap.size := by obtain ⟨m, hm⟩ := k1; exact DataW.trod_lt m _ _ _ hm
  obtain ⟨a0, rfl, _, _, w0⟩ := Go.ChangeMaps.open_string Try.underlying9 (hval 0 9 v0 rfl rfl) h0
  obtain ⟨a1, len1, cap1, o1, rfl, w1⟩ := open_ops (hval 1 22 v1 rfl rfl) h1
  clear hA0 hval0
  refine (walk a0.data.toList a1 len1 cap1 o1 W (by simpa [maxLen] using w0) w1).mono fun e W' ⟨he, bel⟩ => ?_
  subst he
  exact ⟨_, rfl, _, _, _, [], _, [], hW', trodAll_mk1 (shut_bool Try.underlying4 _), (trodAll_cons_mk (Below.trod laidOut (by kernel_rfl) (of_decide_eq_true (by kernel_rfl)) k0 bel lt0) (trodAll_cons_mk (Below.trod laidOut (by kernel_rfl) (of_decide_eq_true (by kernel_rfl)) k1 bel lt1) trodAll_mk0)), rfl, bel.frame _, fun h => by cases h⟩

theorem over : Rows.varintReadsRow.holds Try.pinned (OpenSpec.ofChange Rows.varintReadsSpec) :=
  OpenClaim.holds_of_wide 4 Try.f4 rfl rfl rfl rfl rfl rfl rfl ⟨rfl, rfl, rfl, rfl, rfl⟩ rfl rfl rfl rfl rfl (by kernel_rfl) Try.func4 (by kernel_rfl)
    (of_decide_eq_true (by kernel_rfl)) (by unfold Func.isWrapper; first | (rw [if_pos (by decide +kernel)]; kernel_rfl) | (rw [if_neg (by decide +kernel)]; exact ⟨rfl, rfl⟩))
    (fun os started H enc _ => lifted os started H enc)
end Go.Proofs.Ytppfejkkfgjikaa.LVarintReads

namespace Go.Proofs.Ytppfejkkfgjikaa
theorem varintReads_holds : Rows.VarintReadsSaid := LVarintReads.over
#print axioms varintReads_holds
end Go.Proofs.Ytppfejkkfgjikaa

