/- Proved: for every list of calls the law VarintWrites returns true (whatever is written, the bytes are the document's, and are read as it was), and its argument reads behind the call as it read before. No condition. -/
import Derived.Test.YtppfejkkfgjikaaO
import Derived.Test.YtppfejkkfgjikaaO2
import Derived.Test.YtppfejkkfgjikaaN
import Derived.ShutString
import Derived.ChangeOld
namespace Go.Proofs.Ytppfejkkfgjikaa.LVarintWrites
open Go.RowKit

def byteOf (u : Nat) : UInt8 := UInt8.ofNat ((u : Int) % 256).toNat
theorem byteOf_back (u : Nat) : (((byteOf u).toNat : Nat) : Int) = (u : Int) % 256 := by
  unfold byteOf
  rw [V.toNat_ofNat _ (by omega)]
  omega

/-- The bytes of a call. -/
def opB (o : Opv) : List UInt8 :=
  if o.kd = 1 then [byteOf o.u] else if o.kd = 2 then V.enc o.u else if o.kd = 3 then V.enc (V.zig o.n) else if o.kd = 4 then V.enc o.s.length ++ o.s else if o.kd = 5 then o.s else []

theorem opB1 (o : Opv) (h : o.kd = 1) : opB o = [byteOf o.u] := by unfold opB; rw [if_pos h]
theorem opB2 (o : Opv) (h : o.kd = 2) : opB o = V.enc o.u := by unfold opB; rw [if_neg (by omega), if_pos h]
theorem opB3 (o : Opv) (h : o.kd = 3) : opB o = V.enc (V.zig o.n) := by unfold opB; rw [if_neg (by omega), if_neg (by omega), if_pos h]
theorem opB4 (o : Opv) (h : o.kd = 4) : opB o = V.enc o.s.length ++ o.s := by unfold opB; rw [if_neg (by omega), if_neg (by omega), if_neg (by omega), if_pos h]
theorem opB5 (o : Opv) (h : o.kd = 5) : opB o = o.s := by unfold opB; rw [if_neg (by omega), if_neg (by omega), if_neg (by omega), if_neg (by omega), if_pos h]
theorem opB0 (o : Opv) (h1 : ¬ o.kd = 1) (h2 : ¬ o.kd = 2) (h3 : ¬ o.kd = 3) (h4 : ¬ o.kd = 4) (h5 : ¬ o.kd = 5) : opB o = [] := by
  unfold opB; rw [if_neg h1, if_neg h2, if_neg h3, if_neg h4, if_neg h5]

theorem opB_len (o : Opv) (h : OpvOk o) (hs : o.s.length ≤ 500) : (opB o).length ≤ 510 := by
  unfold opB
  have h1 := V.enc_len10 o.u h.u
  have h2 := V.enc_len10 _ (zig_lt _ h.n)
  have h3 := V.enc_len10 o.s.length (by omega)
  repeat' split
  all_goals simp
  all_goals omega

def Rel1 (w : World) (b len : Nat) (o : Nat → Opv) (s i : Value) (wr : World) : Prop :=
  ∃ k : Nat, k ≤ len ∧ i = .int .i64 k ∧ s = .string ⟨(V.cat (fun i => opB (o i)) k).toArray⟩ ∧ Wr wr b (V.cat (fun i => opB (o i)) k) ∧ (∀ i, i < k → (o i).s.length ≤ 500) ∧ Below w.heap.size w wr

def Rel2 (w : World) (c len : Nat) (o : Nat → Opv) (i : Value) (wr : World) : Prop :=
  ∃ k : Nat, k ≤ len ∧ i = .int .i64 k ∧ Rd wr c (V.suf (fun i => opB (o i)) k (len - k)) 0 ∧ Below w.heap.size w wr

theorem Rd.drewN {w : World} {b : Nat} {l : List UInt8} {x : Int} (h : Rd w b l x) (n : Nat) : Rd (w.drewN n) b l x := ⟨h.rest, h.err, h.free0, h.free1, h.len⟩

theorem raw_all (s r : List UInt8) : V.rawF (s ++ r) 0 (s.length : Int) = (s, r, 0) := by
  unfold V.rawF
  rw [if_neg (by simp), if_neg (by omega), if_neg (by rw [List.length_append]; omega), Int.toNat_natCast]
  simp

theorem text_all (s r : List UInt8) (hs : s.length ≤ 500) : V.textF (V.enc s.length ++ s ++ r) 0 500 = (s, r, 0) := by
  unfold V.textF
  rw [List.append_assoc, V.uintF_enc _ _ (by omega), if_neg (by simp), if_neg (by dsimp only; omega)]
  exact raw_all s r

theorem int_all (n : Int) (r : List UInt8) (h : (Lit.int .i64 n).wf = true) : V.intF (V.enc (V.zig n) ++ r) 0 = (n, r, 0) := by
  unfold V.intF
  rw [V.uintF_enc _ _ (zig_lt _ h)]
  simp only [V.intOfN_zig]

set_option maxRecDepth 100000 in
set_option maxHeartbeats 4000000 in
theorem walk (a : Option Addr) (len cap : Nat) (o : Nat → Opv) (w : World) (ho : OpsAt w a len o) :
    Calls Try.prog 3 #[.slice a len cap] w fun e w' => e = .returned (.bool true) ∧ Below w.heap.size w w' := by
  by_cases h1 : 100 < len
  · go_enter Try.func3, Try.ntmps3
    go_wp2_with fail
    refine (awake_at w).mono ?_
    rintro e w1 ⟨rfl, b1⟩
    go_wp2_with fail
    refine (awake_at w1).mono ?_
    rintro e w2 ⟨rfl, k2⟩
    have b2 := bMore b1 k2 (Nat.le_refl _)
    clear b1 k2
    go_wp2
    go_ret
    exact ⟨rfl, b2⟩
  · have hl1 : len ≤ 100 := by omega
    clear h1
    have HL : Hid (∀ k, k ≤ len → (∀ i, i < k → (o i).s.length ≤ 500) → (V.cat (fun i => opB (o i)) k).length ≤ 51000) := fun k hk hs => by
      have h2 := V.cat_len (fun i => opB (o i)) 510 k (fun i hi => opB_len _ (ho.ok i (by omega)) (hs i hi))
      omega
    go_enter Try.func3, Try.ntmps3
    go_wp2_with fail
    refine (awake_at w).mono ?_
    rintro e w1 ⟨rfl, b1⟩
    have Q1 := Lib.hid (NewWr.wr w1)
    have b2 := bMore b1 (NewWr.below w1) (Nat.le_refl _)
    have hb : w.heap.size ≤ w1.heap.size := b1.size
    clear b1
    go_wp2
    go_loopw [4, 21] (fun s i wr => Rel1 w w1.heap.size len o s i wr) (fun _ i _ => len - (intOf i).toNat)
    case atStart => exact ⟨0, Nat.zero_le _, rfl, rfl, Q1.out, fun i hi => by omega, b2⟩
    case round =>
      clear Q1 b2
      generalize w1.heap.size = b at *
      obtain ⟨k, hk, rfl, rfl, hw, hsm, hbel⟩ := hrel
      have hlk := HL.out k hk hsm
      have HSM := Lib.hid hsm
      clear hsm
      by_cases hlt : k < len
      · obtain ⟨g, off, ha, hg, hc⟩ := (ho.below hbel).cells k hlt
        have hok := ho.ok k hlt
        have HC : Hid (V.cat (fun i => opB (o i)) (k + 1) = V.cat (fun i => opB (o i)) k ++ opB (o k)) := rfl
        have HS1 : Hid ((o k).s.length ≤ 500 → ∀ i, i < k + 1 → (o i).s.length ≤ 500) := fun h i hi => by
          by_cases e : i = k
          · rw [e]; exact h
          · exact HSM.out i (by omega)
        generalize hopk : o k = op at *
        have Hopk := Lib.hid hopk
        clear hopk
        generalize hT : V.cat (fun i => opB (o i)) k = T at *
        have HT := Lib.hid hT
        clear hT
        have c0 := hc.kd
        have c1 := hc.n
        have c2 := hc.u
        have c3 := hc.s
        subst ha
        have X0 := Lib.hid (BoxOp.box wr op)
        have p0 := hw.below (BoxOp.below wr op)
        have l0 := bMore hbel (BoxOp.below wr op) (Nat.le_refl _)
        have hgb : wr.heap.size ≠ b := by have := hw.lt; omega
        clear hw hbel hc
        by_cases h500 : 500 < op.s.length
        · go_wp2
          go_ret
          exact ⟨rfl, l0⟩
        · have hs5 : op.s.length ≤ 500 := by omega
          clear h500
          by_cases hk1 : op.kd = 1
          · have hk1' : (op.kd == 1) = true := by simpa using hk1
            have HB : Hid (opB op = [byteOf op.u]) := opB1 op hk1
            clear hk1
            go_wp2_with fail
            refine (wbyte_at b (((op.u : Int) % 256)) T (BoxOp wr op) p0 (by omega)).mono ?_
            rintro e w4 ⟨rfl, q4, o4⟩
            have X4 := X0.out.only o4 hgb
            have cu := X4.u
            have l4 := bOnly l0 o4 hb (Nat.le_refl _)
            clear p0 l0 o4 c0 c1 c2 c3
            have hcv := conv_one (((op.u : Int) % 256)) w4
            have q5 := q4.alloc (.cells #[.int .u8 (((op.u : Int) % 256))] 5)
            have l5 := bMore l4 ((Below.refl w4.heap.size w4).alloc (Nat.le_refl _) (.cells #[.int .u8 (((op.u : Int) % 256))] 5)) (Nat.le_refl _)
            have Q5 := Lib.hid q5
            have L5 := Lib.hid l5
            clear q4 l4 q5 l5
            go_wp2
            go_roundw
            case rel => exact ⟨k + 1, by omega, by go_num, by rw [HC.out, HB.out]; exact congrArg Value.string (app_list T [byteOf op.u]), by rw [HC.out, HB.out]; exact Q5.out, HS1.out hs5, L5.out⟩
            case measure => simp [intOf]; omega
          · skip
            by_cases hk2 : op.kd = 2
            · have hk1' : (op.kd == 1) = false := by simpa using hk1
              have hk2' : (op.kd == 2) = true := by simpa using hk2
              have hle := V.enc_len10 op.u hok.u
              have HB : Hid (opB op = V.enc op.u) := opB2 op hk2
              clear hk1 hk2
              go_wp2_with fail
              refine (wuint_at b op.u T (BoxOp wr op) hok.u p0 (by omega)).mono ?_
              rintro e w4 ⟨rfl, q4, o4⟩
              have X4 := X0.out.only o4 hgb
              have cu := X4.u
              have l4 := bOnly l0 o4 hb (Nat.le_refl _)
              clear p0 l0 o4 c0 c1 c2 c3
              go_wp2_with fail
              refine (number_at op.u w4 hok.u).mono ?_
              rintro e w5 ⟨rfl, k5⟩
              have q5 := q4.below k5
              have l5 := bMore l4 k5 (Nat.le_refl _)
              clear q4 k5 l4 cu
              go_wp2
              go_roundw
              case rel => exact ⟨k + 1, by omega, by go_num, by rw [HC.out, HB.out]; exact congrArg Value.string (app_list T (V.enc op.u)), by rw [HC.out, HB.out]; exact q5, HS1.out hs5, l5⟩
              case measure => simp [intOf]; omega
            · skip
              by_cases hk3 : op.kd = 3
              · have hk1' : (op.kd == 1) = false := by simpa using hk1
                have hk2' : (op.kd == 2) = false := by simpa using hk2
                have hk3' : (op.kd == 3) = true := by simpa using hk3
                have hle := V.enc_len10 _ (zig_lt _ hok.n)
                have HB : Hid (opB op = V.enc (V.zig op.n)) := opB3 op hk3
                clear hk1 hk2 hk3
                go_wp2_with fail
                refine (wint_at b op.n T (BoxOp wr op) hok.n p0 (by omega)).mono ?_
                rintro e w4 ⟨rfl, q4, o4⟩
                have X4 := X0.out.only o4 hgb
                have cu := X4.n
                have l4 := bOnly l0 o4 hb (Nat.le_refl _)
                clear p0 l0 o4 c0 c1 c2 c3
                go_wp2_with fail
                refine (qint_bytes op.n w4 hok.n).mono ?_
                rintro e w5 ⟨rfl, k5⟩
                have q5 := q4.below k5
                have l5 := bMore l4 k5 (Nat.le_refl _)
                clear q4 k5 l4 cu
                go_wp2
                go_roundw
                case rel => exact ⟨k + 1, by omega, by go_num, by rw [HC.out, HB.out]; exact congrArg Value.string (app_list T (V.enc (V.zig op.n))), by rw [HC.out, HB.out]; exact q5, HS1.out hs5, l5⟩
                case measure => simp [intOf]; omega
              · skip
                by_cases hk4 : op.kd = 4
                · have hk1' : (op.kd == 1) = false := by simpa using hk1
                  have hk2' : (op.kd == 2) = false := by simpa using hk2
                  have hk3' : (op.kd == 3) = false := by simpa using hk3
                  have hk4' : (op.kd == 4) = true := by simpa using hk4
                  have hle := V.enc_len10 op.s.length (by omega)
                  have HB : Hid (opB op = (V.enc op.s.length ++ op.s)) := opB4 op hk4
                  clear hk1 hk2 hk3 hk4
                  go_wp2_with fail
                  refine (wtext_at b op.s T (BoxOp wr op) p0 (by omega)).mono ?_
                  rintro e w4 ⟨rfl, q4, o4⟩
                  have X4 := X0.out.only o4 hgb
                  have cu := X4.s
                  have l4 := bOnly l0 o4 hb (Nat.le_refl _)
                  clear p0 l0 o4 c0 c1 c2 c3
                  go_wp2_with fail
                  refine (qtext_bytes op.s w4 (by omega)).mono ?_
                  rintro e w5 ⟨rfl, k5⟩
                  have q5 := q4.below k5
                  have l5 := bMore l4 k5 (Nat.le_refl _)
                  clear q4 k5 l4 cu
                  go_wp2
                  go_roundw
                  case rel => exact ⟨k + 1, by omega, by go_num, by rw [HC.out, HB.out]; exact congrArg Value.string (app_list T ((V.enc op.s.length ++ op.s))), by rw [HC.out, HB.out]; exact q5, HS1.out hs5, l5⟩
                  case measure => simp [intOf]; omega
                · skip
                  by_cases hk5 : op.kd = 5
                  · have hk1' : (op.kd == 1) = false := by simpa using hk1
                    have hk2' : (op.kd == 2) = false := by simpa using hk2
                    have hk3' : (op.kd == 3) = false := by simpa using hk3
                    have hk4' : (op.kd == 4) = false := by simpa using hk4
                    have hk5' : (op.kd == 5) = true := by simpa using hk5
                    have HB : Hid (opB op = op.s) := opB5 op hk5
                    clear hk1 hk2 hk3 hk4 hk5
                    go_wp2_with fail
                    refine (wraw_at b op.s T (BoxOp wr op) p0 (by omega)).mono ?_
                    rintro e w4 ⟨rfl, q4, o4⟩
                    have X4 := X0.out.only o4 hgb
                    have cu := X4.s
                    have l4 := bOnly l0 o4 hb (Nat.le_refl _)
                    clear p0 l0 o4 c0 c1 c2 c3
                    go_wp2
                    go_roundw
                    case rel => exact ⟨k + 1, by omega, by go_num, by rw [HC.out, HB.out]; exact congrArg Value.string (app_list T op.s), by rw [HC.out, HB.out]; exact q4, HS1.out hs5, l4⟩
                    case measure => simp [intOf]; omega
                  · skip
                    have hk1' : (op.kd == 1) = false := by simpa using hk1
                    have hk2' : (op.kd == 2) = false := by simpa using hk2
                    have hk3' : (op.kd == 3) = false := by simpa using hk3
                    have hk4' : (op.kd == 4) = false := by simpa using hk4
                    have hk5' : (op.kd == 5) = false := by simpa using hk5
                    have HB : Hid (opB op = []) := opB0 op hk1 hk2 hk3 hk4 hk5
                    have P0 := Lib.hid p0
                    have L0 := Lib.hid l0
                    clear hk1 hk2 hk3 hk4 hk5 p0 l0
                    go_wp2
                    go_roundw
                    case rel => exact ⟨k + 1, by omega, by go_num, by rw [HC.out, HB.out, List.append_nil], by rw [HC.out, HB.out, List.append_nil]; exact P0.out, HS1.out hs5, L0.out⟩
                    case measure => simp [intOf]; omega
      · obtain rfl : k = len := by omega
        clear hk hlt
        have HT2 : Hid (V.cat (fun i => opB (o i)) k = V.suf (fun i => opB (o i)) 0 (k - 0)) := (V.suf_zero (fun i => opB (o i)) k).symm
        generalize hT : V.cat (fun i => opB (o i)) k = T at *
        have HT := Lib.hid hT
        clear hT
        have htt : (T == T) = true := by simp
        go_wp2_with fail
        refine (wstring_at b T _ hw (by omega)).mono ?_
        rintro e w4 ⟨rfl, rfl⟩
        go_wp2_with fail
        refine (newreader T _ (by unfold maxLen; omega)).mono ?_
        rintro e w5 ⟨c, rfl, hcc, q5, k5⟩
        have l5 := bMore hbel k5 (Nat.le_refl _)
        have hc2 : w.heap.size ≤ c := by have := hbel.size; omega
        have Q5 : Hid (Rd w5 c (V.suf (fun i => opB (o i)) 0 (k - 0)) 0) := by rw [← HT2.out]; exact q5
        clear hcc k5 hw hbel q5 htt
        go_wp2
        go_loopw [91] (fun i wr => Rel2 w c k o i wr) (fun i _ => k - (intOf i).toNat)
        case atStart => exact ⟨0, Nat.zero_le _, rfl, Q5.out, l5⟩
        case round =>
          clear Q5 l5
          obtain ⟨n, hn, rfl, hr, hbel⟩ := hrel
          by_cases hlt : n < k
          · obtain ⟨g, off, ha, hg, hc⟩ := (ho.below hbel).cells n hlt
            have hok := ho.ok n hlt
            have hs5 := HSM.out n hlt
            have HC : Hid (V.suf (fun i => opB (o i)) n (k - n) = opB (o n) ++ V.suf (fun i => opB (o i)) (n + 1) (k - (n + 1))) := V.suf_step (fun i => opB (o i)) n k hlt
            rw [HC.out] at hr
            generalize hR : V.suf (fun i => opB (o i)) (n + 1) (k - (n + 1)) = R at *
            have HR := Lib.hid hR
            clear hR
            generalize o n = op at *
            clear HC
            have c0 := hc.kd
            have c1 := hc.n
            have c2 := hc.u
            have c3 := hc.s
            subst ha
            have X0 := Lib.hid (BoxOp.box wr op)
            have p0 := hr.below (BoxOp.below wr op)
            have l0 := bMore hbel (BoxOp.below wr op) (Nat.le_refl _)
            have hgc : wr.heap.size ≠ c := by have := hr.lt; omega
            clear hr hbel hc
            by_cases hk1 : op.kd = 1
            · have hk1' : (op.kd == 1) = true := by simpa using hk1
              have HB : Hid (opB op = [byteOf op.u]) := opB1 op hk1
              clear hk1
              rw [HB.out] at p0
              have HE := Lib.hid (show V.byteF ([byteOf op.u] ++ R) 0 = (byteOf op.u, R, 0) from rfl)
              have hvv : (((byteOf op.u).toNat : Int) == ((op.u : Int) % 256)) = true := by rw [byteOf_back]; simp
              have cn := (BoxOp.box wr op).u
              go_wp2_with fail
              go_region_held3 (fun w' => w'.cell? ⟨wr.heap.size, 2, none⟩ = some (.int .u64 op.u)) (first | exact cn1 | exact cn) (first | (go_at_call 21; refine (byte_at c _ 0 _ (Rd.drewN p0 1)).mono ?_; rw [HE.out]; rintro e w4 ⟨rfl, p1, o1⟩; have l1 := bOnly (below_drewN l0 1) o1 hc2 (Nat.le_refl _); have cn1 := (((BoxOp.box wr op).below (below_drewN (Below.refl _ _) 1)).only o1 hgc).u; clear o1))
              all_goals
                clear cn
                go_wp2_with fail
                refine (err_rd c _ _ _ p1).mono ?_
                rintro e w5 ⟨rfl, rfl⟩
                go_wp2
                go_roundw
                case rel => exact ⟨n + 1, by omega, by go_num, by rw [HR.out]; exact p1, l1⟩
                case measure => simp [intOf]; omega
            · skip
              by_cases hk2 : op.kd = 2
              · have hk1' : (op.kd == 1) = false := by simpa using hk1
                have hk2' : (op.kd == 2) = true := by simpa using hk2
                have HB : Hid (opB op = V.enc op.u) := opB2 op hk2
                clear hk1 hk2
                rw [HB.out] at p0
                have HE := Lib.hid (V.uintF_enc op.u R hok.u)
                have hvv : ((op.u : Int) == (op.u : Int)) = true := by simp
                have cn := (BoxOp.box wr op).u
                go_wp2_with fail
                go_region_held3 (fun w' => w'.cell? ⟨wr.heap.size, 2, none⟩ = some (.int .u64 op.u)) (first | exact cn1 | exact cn) (first | (go_at_call 22; refine (uint_at c _ 0 _ (Rd.drewN p0 1)).mono ?_; rw [HE.out]; rintro e w4 ⟨rfl, p1, o1⟩; have l1 := bOnly (below_drewN l0 1) o1 hc2 (Nat.le_refl _); have cn1 := (((BoxOp.box wr op).below (below_drewN (Below.refl _ _) 1)).only o1 hgc).u; clear o1))
                all_goals
                  clear cn
                  go_wp2_with fail
                  refine (err_rd c _ _ _ p1).mono ?_
                  rintro e w5 ⟨rfl, rfl⟩
                  go_wp2
                  go_roundw
                  case rel => exact ⟨n + 1, by omega, by go_num, by rw [HR.out]; exact p1, l1⟩
                  case measure => simp [intOf]; omega
              · skip
                by_cases hk3 : op.kd = 3
                · have hk1' : (op.kd == 1) = false := by simpa using hk1
                  have hk2' : (op.kd == 2) = false := by simpa using hk2
                  have hk3' : (op.kd == 3) = true := by simpa using hk3
                  have HB : Hid (opB op = V.enc (V.zig op.n)) := opB3 op hk3
                  clear hk1 hk2 hk3
                  rw [HB.out] at p0
                  have HE := Lib.hid (int_all op.n R hok.n)
                  have hvv : (op.n == op.n) = true := by simp
                  have cn := (BoxOp.box wr op).n
                  go_wp2_with fail
                  go_region_held3 (fun w' => w'.cell? ⟨wr.heap.size, 1, none⟩ = some (.int .i64 op.n)) (first | exact cn1 | exact cn) (first | (go_at_call 23; refine (int_at c _ 0 _ (Rd.drewN p0 1)).mono ?_; rw [HE.out]; rintro e w4 ⟨rfl, p1, o1⟩; have l1 := bOnly (below_drewN l0 1) o1 hc2 (Nat.le_refl _); have cn1 := (((BoxOp.box wr op).below (below_drewN (Below.refl _ _) 1)).only o1 hgc).n; clear o1))
                  all_goals
                    clear cn
                    go_wp2_with fail
                    refine (err_rd c _ _ _ p1).mono ?_
                    rintro e w5 ⟨rfl, rfl⟩
                    go_wp2
                    go_roundw
                    case rel => exact ⟨n + 1, by omega, by go_num, by rw [HR.out]; exact p1, l1⟩
                    case measure => simp [intOf]; omega
                · skip
                  by_cases hk4 : op.kd = 4
                  · have hk1' : (op.kd == 1) = false := by simpa using hk1
                    have hk2' : (op.kd == 2) = false := by simpa using hk2
                    have hk3' : (op.kd == 3) = false := by simpa using hk3
                    have hk4' : (op.kd == 4) = true := by simpa using hk4
                    have HB : Hid (opB op = (V.enc op.s.length ++ op.s)) := opB4 op hk4
                    clear hk1 hk2 hk3 hk4
                    rw [HB.out] at p0
                    have HE := Lib.hid (text_all op.s R hs5)
                    have hvv : (op.s == op.s) = true := by simp
                    have cn := (BoxOp.box wr op).s
                    go_wp2_with fail
                    go_region_held3 (fun w' => w'.cell? ⟨wr.heap.size, 3, none⟩ = some (.string ⟨op.s.toArray⟩)) (first | exact cn1 | exact cn) (first | (go_at_call 24; refine (text_at c _ 0 500 _ (Rd.drewN p0 1) (by decide)).mono ?_; rw [HE.out]; rintro e w4 ⟨rfl, p1, o1⟩; have l1 := bOnly (below_drewN l0 1) o1 hc2 (Nat.le_refl _); have cn1 := (((BoxOp.box wr op).below (below_drewN (Below.refl _ _) 1)).only o1 hgc).s; clear o1))
                    all_goals
                      clear cn
                      go_wp2_with fail
                      refine (err_rd c _ _ _ p1).mono ?_
                      rintro e w5 ⟨rfl, rfl⟩
                      go_wp2
                      go_roundw
                      case rel => exact ⟨n + 1, by omega, by go_num, by rw [HR.out]; exact p1, l1⟩
                      case measure => simp [intOf]; omega
                  · skip
                    by_cases hk5 : op.kd = 5
                    · have hk1' : (op.kd == 1) = false := by simpa using hk1
                      have hk2' : (op.kd == 2) = false := by simpa using hk2
                      have hk3' : (op.kd == 3) = false := by simpa using hk3
                      have hk4' : (op.kd == 4) = false := by simpa using hk4
                      have hk5' : (op.kd == 5) = true := by simpa using hk5
                      have HB : Hid (opB op = op.s) := opB5 op hk5
                      clear hk1 hk2 hk3 hk4 hk5
                      rw [HB.out] at p0
                      have HE := Lib.hid (raw_all op.s R)
                      have hvv : (op.s == op.s) = true := by simp
                      have cn := (BoxOp.box wr op).s
                      go_wp2_with fail
                      go_region_held3 (fun w' => w'.cell? ⟨wr.heap.size, 3, none⟩ = some (.string ⟨op.s.toArray⟩)) (first | exact cn1 | exact cn) (first | (go_at_call 25; refine (raw_at c _ _ 0 _ (Rd.drewN p0 1)).mono ?_; rw [HE.out]; rintro e w4 ⟨rfl, p1, o1⟩; have l1 := bOnly (below_drewN l0 1) o1 hc2 (Nat.le_refl _); have cn1 := (((BoxOp.box wr op).below (below_drewN (Below.refl _ _) 1)).only o1 hgc).s; clear o1))
                      all_goals
                        clear cn
                        go_wp2_with fail
                        refine (err_rd c _ _ _ p1).mono ?_
                        rintro e w5 ⟨rfl, rfl⟩
                        go_wp2
                        go_roundw
                        case rel => exact ⟨n + 1, by omega, by go_num, by rw [HR.out]; exact p1, l1⟩
                        case measure => simp [intOf]; omega
                    · skip
                      have hk1' : (op.kd == 1) = false := by simpa using hk1
                      have hk2' : (op.kd == 2) = false := by simpa using hk2
                      have hk3' : (op.kd == 3) = false := by simpa using hk3
                      have hk4' : (op.kd == 4) = false := by simpa using hk4
                      have hk5' : (op.kd == 5) = false := by simpa using hk5
                      have HB : Hid (opB op = []) := opB0 op hk1 hk2 hk3 hk4 hk5
                      clear hk1 hk2 hk3 hk4 hk5
                      rw [HB.out, List.nil_append] at p0
                      go_wp2_with fail
                      refine (err_rd c _ _ (BoxOp wr op) p0).mono ?_
                      rintro e w5 ⟨rfl, rfl⟩
                      have P0 := Lib.hid p0
                      have L0 := Lib.hid l0
                      clear p0 l0
                      go_wp2
                      go_roundw
                      case rel => exact ⟨n + 1, by omega, by go_num, by rw [HR.out]; exact P0.out, L0.out⟩
                      case measure => simp [intOf]; omega
          · have hr2 : Rd wr c [] 0 := by
              have e : k - n = 0 := by omega
              rw [e] at hr
              exact hr
            clear hr
            go_wp2_with fail
            refine (done_at c [] 0 _ hr2).mono ?_
            rintro e w7 ⟨rfl, rfl⟩
            go_wp2
            go_ret
            exact ⟨rfl, hbel⟩


open Go.ChangeShapes Go.WideShapes Go.ChangeAt
theorem own : ownKnob Try.prog.godebug = none := by kernel_rfl
theorem laidOut : laidOutB Try.prog = true := by kernel_rfl

set_option maxRecDepth 100000 in
theorem lifted (os : Os) (started : os.Started) (H : Type) (enc : TypeId × Value → H) :
    ReturnsInHanded {} Try.checked os 3 .any (Rows.varintWritesSpec.pre6 enc Try.prog Try.f3 Rows.varintWritesRow.domain false) (Rows.varintWritesSpec.post enc Try.prog Try.f3 false true false false) := by
  refine returnsInHanded_of_change (C := Try.checked) own started (by kernel_rfl) Try.func3
    (ChangeSpec.witness6 (enc := enc) (C := Try.checked) false ⟨#[], #[.slice none 0 0], []⟩ 8 (by kernel_rfl) (by kernel_rfl) (by kernel_rfl) (by kernel_rfl)) ?_
  intro W base args ds gs before hval0 hW hcnd _
  have hval : ∀ (j : Nat) t v, Try.f3.params[j]? = some t → args[j]? = some v → Value.okWide Try.prog W .any base t v := hval0
  have hW' := hW
  obtain ⟨p, q, hA0, hV, rfl, hfz, hnd⟩ := hW
  have hA : DataW.TrodAll enc Try.prog W 0 (fun _ => true) true Try.f3.params.toList args.toList ds p := hA0
  rw [Try.params3] at hA hval
  obtain ⟨v0, vs0, d0, ds0, p0, q0, hargs, rfl, rfl, h0, r0⟩ := trodAll_cons hA
  obtain ⟨rfl, rfl, rfl⟩ := trodAll_nil r0
  obtain rfl : args = #[v0] := by cases args; simp_all
  obtain ⟨rfl, rfl⟩ := trodVars_none hV
  have k0 := h0
  have lt0 : ∀ x ∈ p0, x.block < W.heap.size := by obtain ⟨m, hm⟩ := k0; exact DataW.trod_lt m _ _ _ hm
  obtain ⟨a1, len1, cap1, o1, rfl, w1⟩ := open_ops (hval 0 22 v0 rfl rfl) h0
  clear hA0 hval0
  refine (walk a1 len1 cap1 o1 W w1).mono fun e W' ⟨he, bel⟩ => ?_
  subst he
  exact ⟨_, rfl, _, _, _, [], _, [], hW', trodAll_mk1 (shut_bool Try.underlying4 _), (trodAll_cons_mk (Below.trod laidOut (by kernel_rfl) (of_decide_eq_true (by kernel_rfl)) k0 bel lt0) trodAll_mk0), rfl, bel.frame _, fun h => by cases h⟩

theorem over : Rows.varintWritesRow.holds Try.pinned (OpenSpec.ofChange Rows.varintWritesSpec) :=
  OpenClaim.holds_of_wide 3 Try.f3 rfl rfl rfl rfl rfl rfl rfl ⟨rfl, rfl, rfl, rfl, rfl⟩ rfl rfl rfl rfl rfl (by kernel_rfl) Try.func3 (by kernel_rfl)
    (of_decide_eq_true (by kernel_rfl)) (by unfold Func.isWrapper; first | (rw [if_pos (by decide +kernel)]; kernel_rfl) | (rw [if_neg (by decide +kernel)]; exact ⟨rfl, rfl⟩))
    (fun os started H enc _ => lifted os started H enc)
end Go.Proofs.Ytppfejkkfgjikaa.LVarintWrites

namespace Go.Proofs.Ytppfejkkfgjikaa
theorem varintWrites_holds : Rows.VarintWritesSaid := LVarintWrites.over
#print axioms varintWrites_holds
end Go.Proofs.Ytppfejkkfgjikaa

