/- Proved: lists of texts in memory; a fate; what place, Hurt and New answer. Condition: a text has at most 100000 bytes. -/
import Derived.Test.YtbakmfeikkpmjaaJ
import Derived.Test.YtbakmfeikkpmjaaKd
import Derived.Deep.RegionWith
import Derived.Deep.QuietTactic
import Derived.BigQuiet
namespace Go.Proofs.Ytbakmfeikkpmjaa
open Go.RowKit

theorem info_all (t : TypeId) (z : Value) (s by_ : Nat) (h : (Try.prog.info? t).map (fun i => (i.zero, i.size, i.bytes)) = some (some z, s, by_)) : ∃ it, Try.prog.info? t = some it ∧ it.zero = some z ∧ it.size = s ∧ it.bytes = by_ := by
  cases hh : Try.prog.info? t with
  | none => rw [hh] at h; simp at h
  | some it => rw [hh] at h; simp at h; exact ⟨it, rfl, h.1, h.2.1, h.2.2⟩
theorem infoS : (Try.prog.info? 9).map (fun i => (i.zero, i.size, i.bytes)) = some (some (.string ⟨#[]⟩), 1, 16) := by kernel_rfl
/-- A text's cell. -/
def se (l : List UInt8) : List Value := [.string ⟨l.toArray⟩]
theorem se_len (l : List UInt8) : (se l).length = 1 := rfl
theorem elS : El 33 9 1 16 se := ⟨by kernel_rfl, by
  obtain ⟨it, h1, h2, h3, h4⟩ := info_all 9 _ _ _ infoS
  exact ⟨it, _, h1, h2, h3, h4, rfl⟩, fun _ => rfl, fun x v hv => by
    simp only [se, List.mem_singleton] at hv
    rw [hv]
    rfl, by omega⟩
/-- A list of texts of one's own; one that lies in memory. -/
abbrev OwnS (B : Nat) (w : World) (v : Value) (L : List (List UInt8)) : Prop := Own 9 1 se B w v L
abbrev TexS (w : World) (v : Value) (L : List (List UInt8)) : Prop := Cells se w v L
theorem OwnS.cells {B : Nat} {w : World} {v : Value} {L : List (List UInt8)} (h : OwnS B w v L) : TexS w v L := (Own.row elS h).cells
theorem one_cells (w : World) (s : ByteArray) (l : List UInt8) (h : s = ⟨l.toArray⟩) : TexS (w.alloc (.cells #[.string s] 9)) (.slice (some ⟨w.heap.size, 0, none⟩) 1 1) [l] := by
  subst h
  refine .inr ⟨w.heap.size, 0, 1, rfl, Nat.le_refl _, by unfold maxLen; omega, by simp, fun j u hj => ?_⟩
  have hj0 : j = 0 := by
    have := (List.getElem?_eq_some_iff.1 hj).1
    simp [flat, se] at this
    omega
  subst hj0
  simp [flat, se] at hj
  subst hj
  exact cell_obj (heap_alloc_last w _) rfl
theorem ext_mid (s : List UInt8) (a b : Nat) : (⟨s.toArray⟩ : ByteArray).extract a b = ⟨((s.drop a).take (b - a)).toArray⟩ := by
  apply ByteArray.ext; simp [ByteArray.data_extract]
theorem size_of (s : List UInt8) : (⟨s.toArray⟩ : ByteArray).size = s.length := by simp [ByteArray.size]
theorem Cells.txt {w : World} {g o cap : Nat} {L : List (List UInt8)} (h : TexS w (.slice (some ⟨g, o, none⟩) L.length cap) L) (j : Nat) (x : List UInt8) (hx : L[j]? = some x) : w.cell? ⟨g, o + j, none⟩ = some (.string ⟨x.toArray⟩) := by
  have := h.cell (k := 1) (fun _ => rfl) j x hx 0 (by omega) (.string ⟨x.toArray⟩) rfl
  simpa using this

/-! ### A fate -/
structure Ft where
  kind : Int
  n : Int
  bits : Nat
deriving DecidableEq
instance : Inhabited Ft := ⟨⟨0, 0, 0⟩⟩
def fl (f : Ft) : List Value := [.int .i64 f.kind, .int .i64 f.n, .int .u32 (f.bits : Nat)]
def fc (f : Ft) : Array Value := #[.int .i64 f.kind, .int .i64 f.n, .int .u32 (f.bits : Nat)]
theorem fl_len (f : Ft) : (fl f).length = 3 := rfl
/-- Its numbers are such as their types have. -/
structure SqT (f : Ft) : Prop where
  kind : -9223372036854775808 ≤ f.kind ∧ f.kind ≤ 9223372036854775807
  n : -9223372036854775808 ≤ f.n ∧ f.n ≤ 9223372036854775807
  bits : f.bits < 4294967296

/-! ### Calls -/
/-- Which of so many places a number tells. -/
def placeN (n : Int) (m : Nat) : Nat := ((n % 18446744073709551616) % m).toNat
theorem placeN_lt (n : Int) (m : Nat) (hm : 0 < m) : placeN n m < m := by
  unfold placeN
  have h1 := Int.emod_nonneg (n % 18446744073709551616) (show (m : Int) ≠ 0 by omega)
  have h2 := Int.emod_lt_of_pos (n % 18446744073709551616) (show (0 : Int) < m by omega)
  omega
theorem place_eq (n : Int) (m : Nat) (hm : 0 < m) (hm2 : m ≤ 9223372036854775807) : wrap64 ((IntKind.u64.wrap n).tmod m) = (placeN n m : Nat) := by
  have hw : IntKind.u64.wrap n = n % 18446744073709551616 := by simp [IntKind.wrap, IntKind.bits, IntKind.signed]
  have h1 := Int.emod_nonneg n (show (18446744073709551616 : Int) ≠ 0 by omega)
  have h2 := placeN_lt n m hm
  have h3 : (n % 18446744073709551616).tmod m = (placeN n m : Nat) := by
    rw [Int.tmod_eq_emod_of_nonneg h1]
    unfold placeN
    rw [Int.toNat_of_nonneg (Int.emod_nonneg _ (by omega))]
  rw [hw, h3]
  have h4 : ((placeN n m : Nat) : Int) ≤ 9223372036854775807 := by omega
  exact IntWalk.wrap64_in _ (by omega)
set_option maxRecDepth 100000 in
theorem place_at (n : Int) (m : Nat) (hm : 0 < m) (hm2 : m ≤ 9223372036854775807) (w : World) : Calls Try.prog 18 #[.int .i64 n, .int .i64 m] w fun e w' => e = .returned (.int .i64 (placeN n m : Nat)) ∧ w' = w := by
  have he := place_eq n m hm hm2
  go_enter Try.func18, Try.ntmps18
  go_wp2
  rw [he]
  go_ret
  exact ⟨rfl, rfl⟩
set_option maxRecDepth 100000 in
theorem new_at (w : World) : Calls Try.prog 13 #[] w fun e w' => e = .returned (.pointer (some ⟨w.heap.size, 0, none⟩)) ∧ w' = w.alloc (.cells #[.slice none 0 0, .slice none 0 0] 41) := by
  go_enter Try.func13, Try.ntmps13
  go_wp2
  go_ret
  exact ⟨rfl, rfl⟩

/-- What a fate makes of bytes. -/
def hurtP (s : List UInt8) (f : Ft) : List UInt8 :=
  if s = [] then [] else if f.kind = 4 then K.xorN s (K.big (placeN f.n (8 * s.length) : Nat) f.bits) else if f.kind = 5 then s.take (placeN f.n s.length) else s
set_option maxRecDepth 100000 in
set_option maxHeartbeats 1000000 in
theorem hurt_at (s : List UInt8) (f : Ft) (w : World) (hs : f.kind = 4 ∨ f.kind = 5 → s.length ≤ 100000) (hb : f.bits < 4294967296) : Calls Try.prog 15 #[.string ⟨s.toArray⟩, .agg (fc f)] w fun e w' => e = .returned (.string ⟨(hurtP s f).toArray⟩) ∧ Keep w w' := by
  have hK : Keep w (w.alloc (.cells (fc f) 29)) := (Keep.refl w).alloc _
  have HK := Lib.hid hK
  unfold hurtP
  by_cases he : s = []
  · subst he
    rw [if_pos rfl]
    unfold fc at *
    go_enter Try.func15, Try.ntmps15
    go_wp2
    go_ret
    exact ⟨rfl, HK.out⟩
  · have hz : 0 < s.length := List.length_pos_iff.2 he
    have hem : s.isEmpty = false := by cases s <;> simp_all
    rw [if_neg he]
    by_cases h4 : f.kind = 4
    · rw [if_pos h4]
      have hs := hs (.inl h4)
      have HP := Lib.hid (fun w => place_at f.n (8 * s.length) (by omega) (by omega) w)
      have hlt := placeN_lt f.n (8 * s.length) (by omega)
      have HF := Lib.hid (flip s (placeN f.n (8 * s.length) : Nat) f.bits (by omega) hb (by omega) (by omega)).keep
      have hl := heap_alloc_last w (.cells (fc f) 29)
      unfold fc at *
      rw [h4] at *
      have d1 : ∀ u : KW (w.alloc (.cells #[.int .i64 4, .int .i64 f.n, .int .u32 (f.bits : Nat)] 29)), u.1.cell? ⟨w.heap.size, 1, none⟩ = some (.int .i64 f.n) := fun u => cell_obj (u.block hl) rfl
      have d2 : ∀ u : KW (w.alloc (.cells #[.int .i64 4, .int .i64 f.n, .int .u32 (f.bits : Nat)] 29)), u.1.cell? ⟨w.heap.size, 2, none⟩ = some (.int .u32 (f.bits : Nat)) := fun u => cell_obj (u.block hl) rfl
      have HP2 := Lib.hid (Gives.of_same HP.out).keep
      rw [show ((8 * s.length : Nat) : Int) = 8 * (s.length : Int) by omega] at HP2
      have e8 : IntKind.i64.wrap (8 * (s.length : Int)) = 8 * (s.length : Int) := by simp [IntKind.wrap, IntKind.bits, IntKind.signed]; omega
      clear hl hK
      go_enter Try.func15, Try.ntmps15
      go_wp2_with fail
      refine wp_region_keep (Keep.refl _) (by kernel_rfl) (by kernel_rfl) ?_
      repeat (first | go_big_quiet_step (first | exact HP2.out.at _ | exact HF.out.at _) | quiet_step (first | exact HP2.out.at _ | exact HF.out.at _))
      refine wpQuiet_nil ?_
      rintro w6 ⟨⟨w7, b7⟩, hw6⟩
      obtain rfl : w7 = w6 := hw6.symm
      have HK7 := Lib.hid (((Keep.refl w).alloc _).trans b7)
      clear hw6 b7 d1 d2
      go_wp2
      go_ret
      exact ⟨rfl, HK7.out⟩
    · rw [if_neg h4]
      by_cases h5 : f.kind = 5
      · rw [if_pos h5]
        have hs := hs (.inr h5)
        have HP := Lib.hid (fun w => place_at f.n s.length (by omega) (by omega) w)
        have hlt := placeN_lt f.n s.length (by omega)
        have HX := ext_mid s 0 (placeN f.n s.length)
        rw [List.drop_zero, Nat.sub_zero] at HX
        unfold fc at *
        go_enter Try.func15, Try.ntmps15
        go_wp2_with fail
        refine (HP.out _).mono ?_
        rintro e w2 ⟨rfl, rfl⟩
        go_wp2
        go_ret
        exact ⟨by simp, (Keep.refl w).alloc _⟩
      · rw [if_neg h5]
        unfold fc at *
        go_enter Try.func15, Try.ntmps15
        go_wp2
        go_ret
        exact ⟨rfl, HK.out⟩
end Go.Proofs.Ytbakmfeikkpmjaa
