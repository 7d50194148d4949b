/- Proved: what prefix's own reading of a prefix (take) answers, and what becomes of memory. Condition: the reader's two cells are known (Rd). -/
import Derived.Test.YtabniphnmlbkfaaDoorE
namespace Go.Proofs.YtabniphnmlbkfaaDoor
open Go.RowKit

def sixOf (c : Nat) : Bool := decide (64 ≤ c)
def lenOf (c : Nat) : Nat := if 64 ≤ c then c - 64 else c
/-- What is read behind the first byte: the prefix or none, what is wrong, what is left. -/
def tailF (c : Nat) (l : List UInt8) (x : Int) : Px × Int × List UInt8 × Int :=
  if fitsB (sixOf c) (lenOf c : Nat) then
    if (V.rawF l x (needN (lenOf c) : Nat)).2.2 = 0 then
      if rightP ⟨sixOf c, padL (V.rawF l x (needN (lenOf c) : Nat)).1, (lenOf c : Nat)⟩ then
        (⟨sixOf c, padL (V.rawF l x (needN (lenOf c) : Nat)).1, (lenOf c : Nat)⟩, 0, (V.rawF l x (needN (lenOf c) : Nat)).2.1, 0)
      else (zeroP, 4, (V.rawF l x (needN (lenOf c) : Nat)).2.1, 0)
    else (zeroP, (V.rawF l x (needN (lenOf c) : Nat)).2.2, (V.rawF l x (needN (lenOf c) : Nat)).2.1, (V.rawF l x (needN (lenOf c) : Nat)).2.2)
  else (zeroP, 4, l, x)
def takeF (l : List UInt8) (x : Int) : Px × Int × List UInt8 × Int := tailF (V.byteF l x).1.toNat (V.byteF l x).2.1 (V.byteF l x).2.2

theorem At.setSix {w : World} {b : Nat} {p : Px} (h : At w b p) (s : Bool) : At (w.setCell ⟨b, 0, none⟩ (.bool s)) b ⟨s, p.addr, p.len⟩ := ⟨by rw [block_set h.block, set_six], h.len⟩
theorem At.setLen {w : World} {b : Nat} {p : Px} (h : At w b p) (n : Int) : At (w.setCell ⟨b, 17, none⟩ (.int .i64 n)) b ⟨p.six, p.addr, n⟩ := ⟨by rw [block_set h.block, set_len p h.len], h.len⟩
theorem At.free {w : World} {b : Nat} {p : Px} (h : At w b p) (i : Nat) : w.frozen? ⟨b, i, none⟩ = false := by simp [World.frozen?, h.block]
theorem At.only {w w' : World} {b g : Nat} {p : Px} (h : At w b p) (k : Only g w w') (hg : b ≠ g) : At w' b p := ⟨by rw [k.block b h.lt hg]; exact h.block, h.len⟩
theorem At.row {w : World} {b : Nat} {p : Px} (h : At w b p) (g : Nat) (c : Array Value) (hg : b ≠ g) : At (w.setRow g c) b p := ⟨setRow_old h.block g c hg, h.len⟩
theorem Rd.same {w w' : World} {b : Nat} {l : List UInt8} {x : Int} (h : Rd w b l x) (k : Same w w') : Rd w' b l x := h.below k
theorem Only.same {b : Nat} {w w' : World} (k : Same w w') : Only b w w' := ⟨k.os, k.tape, k.output, k.size, fun i hi _ => k.block i hi⟩
theorem zl_len : zl.length = 16 := rfl
theorem copy_addr (w : World) (g : Nat) (l : List UInt8) (p : Px) (hl : l.length ≤ 16) (hp : p.addr = zl) (hg : At w g p) :
    (Builtin.copy_ #[53, 9] 3 #[.slice (some ⟨g, 1, none⟩) 16 16, .string ⟨l.toArray⟩]).run Tryd.prog w = .ok (.int .i64 l.length) (w.setRow g (pc ⟨p.six, padL l, p.len⟩)) := by
  have hs : (⟨l.toArray⟩ : ByteArray).size = l.length := by simp [ByteArray.size]
  have h := Lib.run_copy_row_string (P := Tryd.prog) w 53 9 3 5 g 1 16 16 ⟨l.toArray⟩ (pc p) 24 Tryd.underlying53 info5 hg.block (by omega) (by rw [pc_size p hg.len, hs]; omega)
  rw [h, hs]
  have e : ((pc p).toList.take 1 ++ Lib.byteCells (⟨l.toArray⟩ : ByteArray).data.toList ++ (pc p).toList.drop (1 + l.length)).toArray = pc ⟨p.six, padL l, p.len⟩ := by
    unfold pc padL
    rw [hp]
    refine congrArg _ ?_
    have e3 : Lib.byteCells (⟨l.toArray⟩ : ByteArray).data.toList = List.map bv l := rfl
    have e2 : List.map bv (List.take 16 (l ++ List.replicate 16 0)) = List.take 16 (List.map bv l ++ List.map bv (List.replicate 16 0)) := by rw [List.map_take, List.map_append]
    rw [e3, e2]
    simp only
    have hlen : (List.map bv l).length = l.length := by simp
    generalize List.map bv l = M at *
    unfold zl
    rw [List.map_replicate, List.take_succ_cons, List.take_zero, Nat.add_comm 1, List.drop_succ_cons, List.take_append, List.take_of_length_le (by omega), hlen, List.take_replicate, Nat.min_eq_left (by omega), List.drop_append, List.drop_replicate]
    simp [show l.length - 16 = 0 by omega]
  rw [e]
  rfl
theorem Only.rowNew {b : Nat} {u v : World} (h : Only b u v) (g : Nat) (c : Array Value) (hg : u.heap.size ≤ g) : Only b u (v.setRow g c) :=
  ⟨h.os, h.tape, h.output, by have := h.size; simpa [World.setRow] using this, fun i hi hb => by
    rw [← h.block i hi hb]
    simp only [World.setRow, Array.getElem?_modify]
    rw [if_neg (by omega)]⟩
theorem Only.cellNew {b : Nat} {u v : World} (h : Only b u v) (g i : Nat) (x : Value) (hg : u.heap.size ≤ g) : Only b u (v.setCell ⟨g, i, none⟩ x) :=
  ⟨h.os, h.tape, h.output, by have := h.size; simpa [World.setCell] using this, fun k hk hb => (Below.heap_setCell _ _ _ _ (by show k ≠ g; omega)).trans (h.block k hk hb)⟩
theorem Only.allocNew {b : Nat} {u v : World} (h : Only b u v) (o : Obj) : Only b u (v.alloc o) := h.trans (Only.same ((Same.refl v).alloc o))
theorem Only.drewNew {b : Nat} {u v : World} (h : Only b u v) : Only b u v.drew := ⟨h.os, h.tape, h.output, h.size, h.block⟩
theorem Rd.row {w : World} {b : Nat} {l : List UInt8} {x : Int} (h : Rd w b l x) (g : Nat) (c : Array Value) (hg : b ≠ g) : Rd (w.setRow g c) b l x :=
  h.other (c := g) ⟨rfl, rfl, rfl, by simp [World.setRow], fun i hi hb => by
    simp only [World.setRow, Array.getElem?_modify]
    rw [if_neg (Ne.symm hb)]⟩ hg h.lt
theorem Rd.cell {w : World} {b : Nat} {l : List UInt8} {x : Int} (h : Rd w b l x) (g i : Nat) (v : Value) (hg : b ≠ g) : Rd (w.setCell ⟨g, i, none⟩ v) b l x := h.other (Only.setCell g i w v) hg h.lt

def TakePost (b : Nat) (w : World) (q : Px × Int × List UInt8 × Int) (e : Ending) (w' : World) : Prop :=
  e = .returned (.tuple #[.agg (pc q.1), .int .i64 q.2.1]) ∧ Rd w' b q.2.2.1 q.2.2.2 ∧ Only b w w'

/-- All that the second half of take leans on: a result's block, the prefix's block, the reader. -/
structure Ready (w w3 : World) (b r g : Nat) (p : Px) (l : List UInt8) (x : Int) : Prop where
  res : At w3 r zeroP
  pre : At w3 g p
  rd : Rd w3 b l x
  only : Only b w w3
  rb : r ≠ b
  gb : g ≠ b
  rg : r ≠ g
  rn : w.heap.size ≤ r
  gn : w.heap.size ≤ g

theorem Ready.mono {w w3 w4 : World} {b r g : Nat} {p : Px} {l : List UInt8} {x : Int} (h : Ready w w3 b r g p l x) (k : Same w3 w4) : Ready w w4 b r g p l x :=
  ⟨h.res.mono k, h.pre.mono k, h.rd.same k, h.only.trans (Only.same k), h.rb, h.gb, h.rg, h.rn, h.gn⟩
theorem Ready.drew {w w3 : World} {b r g : Nat} {p : Px} {l : List UInt8} {x : Int} (h : Ready w w3 b r g p l x) : Ready w w3.drew b r g p l x := h.mono (Same.refl w3).drew
theorem Ready.read {w w3 w4 : World} {b r g : Nat} {p : Px} {l m : List UInt8} {x y : Int} (h : Ready w w3 b r g p l x) (hr : Rd w4 b m y) (k : Only b w3 w4) : Ready w w4 b r g p m y :=
  ⟨h.res.only k h.rb, h.pre.only k h.gb, hr, h.only.trans k, h.rb, h.gb, h.rg, h.rn, h.gn⟩
theorem Ready.fill {w w3 : World} {b r g : Nat} {p : Px} {l : List UInt8} {x : Int} (h : Ready w w3 b r g p l x) (q : Px) (hq : q.addr.length = 16) : Ready w (w3.setRow g (pc q)) b r g q l x :=
  ⟨h.res.row _ _ h.rg, h.pre.put q hq, h.rd.row _ _ (Ne.symm h.gb), h.only.rowNew _ _ h.gn, h.rb, h.gb, h.rg, h.rn, h.gn⟩
theorem Ready.turn {w w3 : World} {b r g : Nat} {p : Px} {l : List UInt8} {x : Int} (h : Ready w w3 b r g p l x) (s : Bool) (n : Int) : Ready w ((w3.setCell ⟨g, 0, none⟩ (.bool s)).setCell ⟨g, 17, none⟩ (.int .i64 n)) b r g ⟨s, p.addr, n⟩ l x :=
  ⟨(h.res.setOther _ _ _ h.rg).setOther _ _ _ h.rg, (h.pre.setSix s).setLen n, (h.rd.cell _ _ _ (Ne.symm h.gb)).cell _ _ _ (Ne.symm h.gb), (h.only.cellNew _ _ _ h.gn).cellNew _ _ _ h.gn, h.rb, h.gb, h.rg, h.rn, h.gn⟩
theorem raw_len (l : List UInt8) (x : Int) (n : Nat) (hn : n ≤ 16) : (V.rawF l x (n : Nat)).1.length ≤ 16 := by
  unfold V.rawF
  split
  · simp
  · split
    · simp
    · split
      · simp
      · simp; omega

set_option maxRecDepth 100000 in
set_option maxHeartbeats 2000000 in
theorem take_at (b : Nat) (l : List UInt8) (x : Int) (w : World) (h : Rd w b l x) : Calls Tryd.prog 41 #[.pointer (some ⟨b, 0, none⟩)] w (TakePost b w (takeF l x)) := by
  obtain ⟨hz, hi⟩ := zero_of_info info24
  have hby := byte_at b l x (w.alloc (.cells (pc zeroP) 24)) (h.same ((Same.refl w).alloc _))
  unfold takeF
  have hbw : b < w.heap.size := h.lt
  generalize (V.byteF l x).2.1 = l1 at *
  generalize (V.byteF l x).2.2 = x1 at *
  have hc : (V.byteF l x).1.toNat < 256 := UInt8.toNat_lt _
  generalize (V.byteF l x).1.toNat = c at *
  obtain ⟨n2, hn2⟩ : ∃ n, n = 18 := ⟨18, rfl⟩
  have hsz2 : ∀ w, (Go.sizeOf 24).run Tryd.prog w = .ok n2 w := fun w => by rw [hn2]; exact Tryd.sizeOf24 w
  obtain ⟨n1, hn1⟩ : ∃ n, n = 16 := ⟨16, rfl⟩
  have hsz1 : ∀ w, (Go.sizeOf 22).run Tryd.prog w = .ok n1 w := fun w => by rw [hn1]; exact Tryd.sizeOf22 w
  have hn0 : ¬ n1 = 0 := by omega
  obtain ⟨hA, hS⟩ := one_at w zeroP zeroP_len
  have HA := Lib.hid hA
  have HS := Lib.hid hS
  have HN2 := Lib.hid hn2
  have HN1 := Lib.hid hn1
  have HB := Lib.hid hby
  clear hA hS hn2 hn1 hi hby h
  go_enter Tryd.func41, Tryd.ntmps41
  go_wp2_with fail
  refine HB.out.mono ?_
  rintro e w2 ⟨rfl, hr2, ho2⟩
  have z1 : (pc zeroP).size = 18 := pc_size _ rfl
  have hne : pc zeroP ≠ #[] := by intro h; rw [h] at z1; simp at z1
  have f3 := set_len zeroP rfl c
  have hA2 : At (w2.alloc (.cells (pc zeroP) 24)) w2.heap.size zeroP := (one_at w2 zeroP rfl).1
  have z4 : (pc ⟨zeroP.six, zeroP.addr, c⟩).size = n2 := by rw [HN2.out]; exact pc_size _ rfl
  have hst := hA2.store ⟨zeroP.six, zeroP.addr, c⟩ rfl
  have hs1 : (w.alloc (.cells (pc zeroP) 24)).heap.size = w.heap.size + 1 := by simp
  have hs2 := ho2.size
  have HR3 := Lib.hid (show Ready w ((w2.alloc (.cells (pc zeroP) 24)).setRow w2.heap.size (pc ⟨zeroP.six, zeroP.addr, c⟩)) b w.heap.size w2.heap.size ⟨false, zl, c⟩ l1 x1 from
    ⟨((HA.out.only ho2 (by omega)).mono ((Same.refl w2).alloc _)).row _ _ (by omega), hA2.put ⟨zeroP.six, zeroP.addr, c⟩ rfl, (hr2.same ((Same.refl w2).alloc _)).row _ _ (by omega), (((Only.same HS.out).trans ho2).allocNew _).rowNew _ _ (by omega), by omega, by omega, by omega, by omega, by omega⟩)
  clear hr2 ho2 HA HS HB hA2
  have h17 := HR3.out.pre.bits
  by_cases h64 : 64 ≤ c
  · obtain ⟨m, hm64⟩ : ∃ m : Nat, (c : Int) - 64 = m := ⟨c - 64, by omega⟩
    have f0 := HR3.out.pre.free 0
    have HA3 := Lib.hid (HR3.out.pre.setSix true)
    have g17 := HA3.out.bits
    have f17 := HA3.out.free 17
    have HA4 := Lib.hid (HA3.out.setLen (m : Nat))
    have k0 := HA4.out.six
    have k17 := HA4.out.bits
    have h0 := HR3.out.pre.six
    simp only at h17 h0 g17 k0 k17
    have HR5 := Lib.hid (HR3.out.turn true (m : Nat))
    have Hf := Lib.hid (fits_at true (m : Nat))
    have hS : sixOf c = true := by simp [sixOf, h64]
    have hL : lenOf c = m := by unfold lenOf; rw [if_pos h64]; omega
    go_wp2_with fail
    clear HR3 HA3 HA4 f0 g17 f17 k0 k17 h0 h17 hst f3 z4 hm64
    generalize (((w2.alloc (.cells (pc zeroP) 24)).setRow w2.heap.size (pc ⟨zeroP.six, zeroP.addr, c⟩)).setCell ⟨w2.heap.size, 0, none⟩ (.bool true)).setCell ⟨w2.heap.size, 17, none⟩ (.int .i64 (m : Nat)) = w3 at *
    generalize w2.heap.size = g at *
    have HR3 := Lib.hid (show Ready w w3 b w.heap.size g ⟨true, zl, (m : Nat)⟩ l1 x1 from HR5.out)
    clear HR5
    refine (Hf.out _).mono ?_
    rintro e w4 ⟨rfl, b4⟩
    have HR4 := Lib.hid (HR3.out.mono b4)
    clear HR3 b4 Hf
    have hzs : (pc zeroP).size = n2 := by rw [HN2.out]; exact pc_size _ rfl
    by_cases hfit : fitsB true ((m : Nat) : Int) = true
    · rw [hfit]
      have hm : m ≤ 128 := by simp [fitsB, sizeN] at hfit; omega
      have e17 : w4.cell? ⟨g, 17, none⟩ = some (.int .i64 (m : Nat)) := HR4.out.pre.bits
      have hsl := slice_addr
      have Hnd := Lib.hid (need_at m hm)
      have Hraw := Lib.hid (raw_at b (needN m : Nat) l1 x1)
      have HT := Lib.hid (show tailF c l1 x1 = if (V.rawF l1 x1 (needN m : Nat)).2.2 = 0 then (if rightP ⟨true, padL (V.rawF l1 x1 (needN m : Nat)).1, (m : Nat)⟩ then (⟨true, padL (V.rawF l1 x1 (needN m : Nat)).1, (m : Nat)⟩, 0, (V.rawF l1 x1 (needN m : Nat)).2.1, 0) else (zeroP, 4, (V.rawF l1 x1 (needN m : Nat)).2.1, 0)) else (zeroP, (V.rawF l1 x1 (needN m : Nat)).2.2, (V.rawF l1 x1 (needN m : Nat)).2.1, (V.rawF l1 x1 (needN m : Nat)).2.2) by
        rw [tailF, hS, hL, if_pos hfit])
      have hT16 := raw_len l1 x1 (needN m) (by unfold needN; omega)
      generalize (V.rawF l1 x1 (needN m : Nat)).1 = T at *
      generalize (V.rawF l1 x1 (needN m : Nat)).2.1 = l2 at *
      generalize (V.rawF l1 x1 (needN m : Nat)).2.2 = x2 at *
      clear hfit
      go_wp2_with fail
      go_region_with (first
        | (go_at_call 40; refine (Hnd.out _).mono ?_; rintro e w1 ⟨rfl, rfl⟩)
        | (go_at_call 52; refine (Hraw.out _ HR4.out.drew.rd).mono ?_; rintro e w5 ⟨rfl, hr5, ho5⟩; have HR5 := Lib.hid (HR4.out.drew.read hr5 ho5); have hcp := copy_addr w5 g T ⟨true, zl, (m : Nat)⟩ hT16 rfl HR5.out.pre))
      have HR6 := Lib.hid (HR5.out.fill ⟨true, padL T, (m : Nat)⟩ (padL_len T))
      clear hcp HR5 HR4 e17 hr5 ho5
      generalize w5.setRow g (pc ⟨true, padL T, (m : Nat)⟩) = w6 at *
      have Her := Lib.hid (err_rd b l2 x2 w6 HR6.out.rd)
      by_cases hx : x2 = 0
      · subst hx
        have hq := Lib.hid (right ⟨true, padL T, (m : Nat)⟩ (padL_len T))
        have HT2 := Lib.hid (HT.out.trans (if_pos rfl))
        clear HT
        have hp16 : (⟨true, padL T, (m : Nat)⟩ : Px).addr.length = 16 := padL_len T
        generalize (⟨true, padL T, (m : Nat)⟩ : Px) = P at *
        have hps : (pc P).size = n2 := by rw [HN2.out]; exact pc_size _ hp16
        go_wp2_with fail
        refine Her.out.mono ?_
        rintro e w7 ⟨rfl, rfl⟩
        have hwp := HR6.out.pre.whole HN2.out
        go_wp2_with fail
        refine (hq.out _).mono ?_
        rintro e w7 ⟨rfl, b7⟩
        have HR7 := Lib.hid (HR6.out.mono b7)
        have hwp7 := HR7.out.pre.whole HN2.out
        clear HR6 b7 hwp Her hq
        by_cases hr : rightP P
        · rw [decide_eq_true hr]
          have hst := HR7.out.res.store P hp16
          have hld := (HR7.out.res.put P hp16).whole HN2.out
          go_wp2
          refine bodyPost_ret (v := .tuple #[.agg (pc P), .int .i64 0]) ?_ rfl ?_
          · simp [results, Tryd.results41, go_sem, hsz2, hld]
          · rw [HT2.out, if_pos hr]
            exact ⟨rfl, HR7.out.rd.row _ _ (Ne.symm HR7.out.rb), HR7.out.only.rowNew _ _ HR7.out.rn⟩
        · rw [decide_eq_false hr]
          have hst := HR7.out.res.store zeroP rfl
          have hld := (HR7.out.res.put zeroP rfl).whole HN2.out
          go_wp2
          refine bodyPost_ret (v := .tuple #[.agg (pc zeroP), .int .i64 4]) ?_ rfl ?_
          · simp [results, Tryd.results41, go_sem, hsz2, hld]
          · rw [HT2.out, if_neg hr]
            exact ⟨rfl, HR7.out.rd.row _ _ (Ne.symm HR7.out.rb), HR7.out.only.rowNew _ _ HR7.out.rn⟩
      · have HT2 := Lib.hid (HT.out.trans (if_neg hx))
        clear HT
        go_wp2_with fail
        refine Her.out.mono ?_
        rintro e w7 ⟨rfl, rfl⟩
        have hst := HR6.out.res.store zeroP rfl
        have hld := (HR6.out.res.put zeroP rfl).whole HN2.out
        go_wp2
        refine bodyPost_ret (v := .tuple #[.agg (pc zeroP), .int .i64 x2]) ?_ rfl ?_
        · simp [results, Tryd.results41, go_sem, hsz2, hld]
        · rw [HT2.out]
          exact ⟨rfl, HR6.out.rd.row _ _ (Ne.symm HR6.out.rb), HR6.out.only.rowNew _ _ HR6.out.rn⟩
    · rw [show fitsB true ((m : Nat) : Int) = false by simpa using hfit]
      have HT := Lib.hid (show tailF c l1 x1 = (zeroP, 4, l1, x1) by rw [tailF, hS, hL, if_neg hfit])
      have hst := HR4.out.res.store zeroP rfl
      have hld := (HR4.out.res.put zeroP rfl).whole HN2.out
      clear hfit
      go_wp2
      refine bodyPost_ret (v := .tuple #[.agg (pc zeroP), .int .i64 4]) ?_ rfl ?_
      · simp [results, Tryd.results41, go_sem, hsz2, hld]
      · rw [HT.out]
        exact ⟨rfl, HR4.out.rd.row _ _ (Ne.symm HR4.out.rb), HR4.out.only.rowNew _ _ HR4.out.rn⟩
  · have h0 := HR3.out.pre.six
    simp only at h17 h0
    have Hf := Lib.hid (fits_at false (c : Nat))
    have hS : sixOf c = false := by simp [sixOf]; omega
    have hL : lenOf c = c := by unfold lenOf; rw [if_neg h64]
    go_wp2_with fail
    generalize (w2.alloc (.cells (pc zeroP) 24)).setRow w2.heap.size (pc ⟨zeroP.six, zeroP.addr, c⟩) = w3 at *
    generalize w2.heap.size = g at *
    clear hst f3 z4 h0 h17
    refine (Hf.out _).mono ?_
    rintro e w4 ⟨rfl, b4⟩
    have HR4 := Lib.hid (HR3.out.mono b4)
    clear HR3 b4 Hf
    have hzs : (pc zeroP).size = n2 := by rw [HN2.out]; exact pc_size _ rfl
    by_cases hfit : fitsB false ((c : Nat) : Int) = true
    · rw [hfit]
      have hm : c ≤ 128 := by simp [fitsB, sizeN] at hfit; omega
      have e17 : w4.cell? ⟨g, 17, none⟩ = some (.int .i64 (c : Nat)) := HR4.out.pre.bits
      have hsl := slice_addr
      have Hnd := Lib.hid (need_at c hm)
      have Hraw := Lib.hid (raw_at b (needN c : Nat) l1 x1)
      have HT := Lib.hid (show tailF c l1 x1 = if (V.rawF l1 x1 (needN c : Nat)).2.2 = 0 then (if rightP ⟨false, padL (V.rawF l1 x1 (needN c : Nat)).1, (c : Nat)⟩ then (⟨false, padL (V.rawF l1 x1 (needN c : Nat)).1, (c : Nat)⟩, 0, (V.rawF l1 x1 (needN c : Nat)).2.1, 0) else (zeroP, 4, (V.rawF l1 x1 (needN c : Nat)).2.1, 0)) else (zeroP, (V.rawF l1 x1 (needN c : Nat)).2.2, (V.rawF l1 x1 (needN c : Nat)).2.1, (V.rawF l1 x1 (needN c : Nat)).2.2) by
        rw [tailF, hS, hL, if_pos hfit])
      have hT16 := raw_len l1 x1 (needN c) (by unfold needN; omega)
      generalize (V.rawF l1 x1 (needN c : Nat)).1 = T at *
      generalize (V.rawF l1 x1 (needN c : Nat)).2.1 = l2 at *
      generalize (V.rawF l1 x1 (needN c : Nat)).2.2 = x2 at *
      clear hfit
      go_wp2_with fail
      go_region_with (first
        | (go_at_call 40; refine (Hnd.out _).mono ?_; rintro e w1 ⟨rfl, rfl⟩)
        | (go_at_call 52; refine (Hraw.out _ HR4.out.drew.rd).mono ?_; rintro e w5 ⟨rfl, hr5, ho5⟩; have HR5 := Lib.hid (HR4.out.drew.read hr5 ho5); have hcp := copy_addr w5 g T ⟨false, zl, (c : Nat)⟩ hT16 rfl HR5.out.pre))
      have HR6 := Lib.hid (HR5.out.fill ⟨false, padL T, (c : Nat)⟩ (padL_len T))
      clear hcp HR5 HR4 e17 hr5 ho5
      generalize w5.setRow g (pc ⟨false, padL T, (c : Nat)⟩) = w6 at *
      have Her := Lib.hid (err_rd b l2 x2 w6 HR6.out.rd)
      by_cases hx : x2 = 0
      · subst hx
        have hq := Lib.hid (right ⟨false, padL T, (c : Nat)⟩ (padL_len T))
        have HT2 := Lib.hid (HT.out.trans (if_pos rfl))
        clear HT
        have hp16 : (⟨false, padL T, (c : Nat)⟩ : Px).addr.length = 16 := padL_len T
        generalize (⟨false, padL T, (c : Nat)⟩ : Px) = P at *
        have hps : (pc P).size = n2 := by rw [HN2.out]; exact pc_size _ hp16
        go_wp2_with fail
        refine Her.out.mono ?_
        rintro e w7 ⟨rfl, rfl⟩
        have hwp := HR6.out.pre.whole HN2.out
        go_wp2_with fail
        refine (hq.out _).mono ?_
        rintro e w7 ⟨rfl, b7⟩
        have HR7 := Lib.hid (HR6.out.mono b7)
        have hwp7 := HR7.out.pre.whole HN2.out
        clear HR6 b7 hwp Her hq
        by_cases hr : rightP P
        · rw [decide_eq_true hr]
          have hst := HR7.out.res.store P hp16
          have hld := (HR7.out.res.put P hp16).whole HN2.out
          go_wp2
          refine bodyPost_ret (v := .tuple #[.agg (pc P), .int .i64 0]) ?_ rfl ?_
          · simp [results, Tryd.results41, go_sem, hsz2, hld]
          · rw [HT2.out, if_pos hr]
            exact ⟨rfl, HR7.out.rd.row _ _ (Ne.symm HR7.out.rb), HR7.out.only.rowNew _ _ HR7.out.rn⟩
        · rw [decide_eq_false hr]
          have hst := HR7.out.res.store zeroP rfl
          have hld := (HR7.out.res.put zeroP rfl).whole HN2.out
          go_wp2
          refine bodyPost_ret (v := .tuple #[.agg (pc zeroP), .int .i64 4]) ?_ rfl ?_
          · simp [results, Tryd.results41, go_sem, hsz2, hld]
          · rw [HT2.out, if_neg hr]
            exact ⟨rfl, HR7.out.rd.row _ _ (Ne.symm HR7.out.rb), HR7.out.only.rowNew _ _ HR7.out.rn⟩
      · have HT2 := Lib.hid (HT.out.trans (if_neg hx))
        clear HT
        go_wp2_with fail
        refine Her.out.mono ?_
        rintro e w7 ⟨rfl, rfl⟩
        have hst := HR6.out.res.store zeroP rfl
        have hld := (HR6.out.res.put zeroP rfl).whole HN2.out
        go_wp2
        refine bodyPost_ret (v := .tuple #[.agg (pc zeroP), .int .i64 x2]) ?_ rfl ?_
        · simp [results, Tryd.results41, go_sem, hsz2, hld]
        · rw [HT2.out]
          exact ⟨rfl, HR6.out.rd.row _ _ (Ne.symm HR6.out.rb), HR6.out.only.rowNew _ _ HR6.out.rn⟩
    · rw [show fitsB false ((c : Nat) : Int) = false by simpa using hfit]
      have HT := Lib.hid (show tailF c l1 x1 = (zeroP, 4, l1, x1) by rw [tailF, hS, hL, if_neg hfit])
      have hst := HR4.out.res.store zeroP rfl
      have hld := (HR4.out.res.put zeroP rfl).whole HN2.out
      clear hfit
      go_wp2
      refine bodyPost_ret (v := .tuple #[.agg (pc zeroP), .int .i64 4]) ?_ rfl ?_
      · simp [results, Tryd.results41, go_sem, hsz2, hld]
      · rw [HT.out]
        exact ⟨rfl, HR4.out.rd.row _ _ (Ne.symm HR4.out.rb), HR4.out.only.rowNew _ _ HR4.out.rn⟩
end Go.Proofs.YtabniphnmlbkfaaDoor
