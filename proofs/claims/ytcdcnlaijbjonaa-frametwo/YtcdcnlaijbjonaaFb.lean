/- Proved: a frame in memory; what fits, Right and headOf of frame, and the document's Right answer. Condition: numbers fit. -/
import Derived.Test.YtcdcnlaijbjonaaFa
import Derived.Great.BuildSlice
namespace Go.Proofs.Ytcdcnlaijbjonaa
open Go.RowKit

/-- A frame's cells. -/
def fl (f : Fr) : List Value := [.int .i64 f.kind, .int .i64 f.ses, .int .i64 f.ep, .int .i64 f.idx, .int .i64 f.tot, .string ⟨f.data.toArray⟩]
def fc (f : Fr) : Array Value := (fl f).toArray
theorem fc_size (f : Fr) : (fc f).size = 6 := rfl
theorem fc_one (f : Fr) : ∀ v ∈ (fc f).toList, v.oneCell' = true := by
  intro v hv
  simp [fc, fl] at hv
  rcases hv with rfl | rfl | rfl | rfl | rfl | rfl <;> rfl
/-- A frame lies in block b. -/
def FAt (w : World) (b : Nat) (f : Fr) : Prop := w.heap[b]? = some (.cells (fc f) 23 (0, 0))
theorem FAt.keep {w w' : World} {b : Nat} {f : Fr} (h : FAt w b f) (k : Keep w w') : FAt w' b f := k.obj h
theorem FAt.new (w : World) (f : Fr) : FAt (w.alloc (.cells (fc f) 23)) w.heap.size f := heap_alloc_last w _
theorem FAt.whole {w : World} {b n : Nat} {f : Fr} (h : FAt w b f) (hn : n = 6) : (loadCellsFrom ⟨b, 0, none⟩ 0 n #[]).run Try.prog w = .ok (fc f) w := load_block n (by rw [fc_size, hn]) h
theorem FAt.kind {w : World} {b : Nat} {f : Fr} (h : FAt w b f) : w.cell? ⟨b, 0, none⟩ = some (.int .i64 f.kind) := cell_obj h rfl
theorem FAt.ses {w : World} {b : Nat} {f : Fr} (h : FAt w b f) : w.cell? ⟨b, 1, none⟩ = some (.int .i64 f.ses) := cell_obj h rfl
theorem FAt.ep {w : World} {b : Nat} {f : Fr} (h : FAt w b f) : w.cell? ⟨b, 2, none⟩ = some (.int .i64 f.ep) := cell_obj h rfl
theorem FAt.idx {w : World} {b : Nat} {f : Fr} (h : FAt w b f) : w.cell? ⟨b, 3, none⟩ = some (.int .i64 f.idx) := cell_obj h rfl
theorem FAt.tot {w : World} {b : Nat} {f : Fr} (h : FAt w b f) : w.cell? ⟨b, 4, none⟩ = some (.int .i64 f.tot) := cell_obj h rfl
theorem FAt.data {w : World} {b : Nat} {f : Fr} (h : FAt w b f) : w.cell? ⟨b, 5, none⟩ = some (.string ⟨f.data.toArray⟩) := cell_obj h rfl
theorem FAt.store {w : World} {b : Nat} {z : Fr} (h : FAt w b z) (f : Fr) : (storeCells ⟨b, 0, none⟩ (fc f).toList).run Try.prog w = .ok () (w.setRow b (fc f)) := by
  have hsc := run_storeCells_from (P := Try.prog) b 23 (fc f).toList 0 (fc z) w h (by rw [fc_size z]; simp [fc_size f]) (fc_one f)
  rw [List.take_zero, List.nil_append, Array.toArray_toList] at hsc
  exact hsc
theorem FAt.put {w : World} {b : Nat} {z : Fr} (h : FAt w b z) (f : Fr) : FAt (w.setRow b (fc f)) b f := block_row h _

/-- A number of so many bytes. -/
def fitsI (n : Int) (k : Nat) : Bool := decide (0 ≤ n ∧ n < 2 ^ (8 * k))
theorem fits_at (n : Int) (k : Nat) (hk : k = 2 ∨ k = 4) (h1 : -9223372036854775808 ≤ n) (h2 : n ≤ 9223372036854775807) (w : World) : Calls Try.prog 18 #[.int .i64 n, .int .i64 k] w fun e w' => e = .returned (.bool (fitsI n k)) ∧ w' = w := by
  unfold fitsI
  rcases hk with rfl | rfl
  · by_cases h : 0 ≤ n
    · go_enter Try.func18, Try.ntmps18
      go_wp2
      go_ret
      refine ⟨congrArg (fun b => Ending.returned (.bool b)) ?_, rfl⟩
      rw [Bool.eq_iff_iff, beq_iff_eq, decide_eq_true_eq]
      omega
    · have hw : IntKind.u64.wrap n = n + 18446744073709551616 := by rw [IntKind.wrap_u64]; omega
      rw [decide_eq_false (fun q => h q.1)]
      go_enter Try.func18, Try.ntmps18
      go_wp2
      go_ret
      refine ⟨congrArg (fun b => Ending.returned (.bool b)) ?_, rfl⟩
      exact beq_eq_false_iff_ne.2 (by omega)
  · by_cases h : 0 ≤ n
    · go_enter Try.func18, Try.ntmps18
      go_wp2
      go_ret
      refine ⟨congrArg (fun b => Ending.returned (.bool b)) ?_, rfl⟩
      rw [Bool.eq_iff_iff, beq_iff_eq, decide_eq_true_eq]
      omega
    · have hw : IntKind.u64.wrap n = n + 18446744073709551616 := by rw [IntKind.wrap_u64]; omega
      rw [decide_eq_false (fun q => h q.1)]
      go_enter Try.func18, Try.ntmps18
      go_wp2
      go_ret
      refine ⟨congrArg (fun b => Ending.returned (.bool b)) ?_, rfl⟩
      exact beq_eq_false_iff_ne.2 (by omega)

/-- A frame's numbers are ints, its Data a text. -/
structure SqF (f : Fr) : Prop where
  ses : -9223372036854775808 ≤ f.ses ∧ f.ses ≤ 9223372036854775807
  ep : -9223372036854775808 ≤ f.ep ∧ f.ep ≤ 9223372036854775807
  idx : -9223372036854775808 ≤ f.idx ∧ f.idx ≤ 9223372036854775807
  tot : -9223372036854775808 ≤ f.tot ∧ f.tot ≤ 9223372036854775807
  data : f.data.length ≤ 9223372036854775807
theorem right_parts (f : Fr) : decide (rightF f) = ((decide (f.kind = 1) || decide (f.kind = 2)) && fitsI f.ses 4 && fitsI f.ep 4 && fitsI f.idx 2 && fitsI f.tot 2 && decide (f.data.length ≤ 65000)) := by
  rw [Bool.eq_iff_iff, decide_eq_true_eq]
  simp only [Bool.and_eq_true, Bool.or_eq_true, decide_eq_true_eq, fitsI]
  unfold rightF
  constructor
  · rintro ⟨h1, h2, h3, h4, h5, h6⟩
    exact ⟨⟨⟨⟨⟨h1, h2⟩, h3⟩, h4⟩, h5⟩, h6⟩
  · rintro ⟨⟨⟨⟨⟨h1, h2⟩, h3⟩, h4⟩, h5⟩, h6⟩
    exact ⟨h1, h2, h3, h4, h5, h6⟩

set_option maxRecDepth 100000 in
theorem dright (f : Fr) (hs : SqF f) (w : World) : Calls Try.prog 10 #[.agg (fc f)] w fun e w' => e = .returned (.bool (decide (rightF f))) ∧ Keep w w' := by
  have hA := FAt.new w f
  have HK := Lib.hid (show Keep w (w.alloc (.cells (fc f) 23)) from (Keep.refl w).alloc _)
  have h0 := hA.kind
  have h1 := hA.ses
  have h2 := hA.ep
  have h3 := hA.idx
  have h4 := hA.tot
  have h5 := hA.data
  have F1 := Lib.hid (fun w => fits_at f.ses 4 (.inr rfl) hs.ses.1 hs.ses.2 w)
  have F2 := Lib.hid (fun w => fits_at f.ep 4 (.inr rfl) hs.ep.1 hs.ep.2 w)
  have F3 := Lib.hid (fun w => fits_at f.idx 2 (.inl rfl) hs.idx.1 hs.idx.2 w)
  have F4 := Lib.hid (fun w => fits_at f.tot 2 (.inl rfl) hs.tot.1 hs.tot.2 w)
  rw [right_parts, show decide (f.data.length ≤ 65000) = decide ((f.data.length : Int) ≤ 65000) from decide_eq_decide.2 (by omega)]
  have hd := hs.data
  generalize fitsI f.ses 4 = b1 at *
  generalize fitsI f.ep 4 = b2 at *
  generalize fitsI f.idx 2 = b3 at *
  generalize fitsI f.tot 2 = b4 at *
  generalize f.ses = s1 at *
  generalize f.ep = s2 at *
  generalize f.idx = s3 at *
  generalize f.tot = s4 at *
  generalize f.kind = k at *
  generalize f.data = d at *
  clear hA hs
  generalize fc f = C at *
  by_cases hk : k = 1 ∨ k = 2
  · rw [show (decide (k = 1) || decide (k = 2)) = true by simp [hk], Bool.true_and]
    rcases hk with rfl | rfl
    · go_enter Try.func10, Try.ntmps10
      go_wp2_with fail
      refine (F1.out _).mono ?_
      rintro e w ⟨rfl, rfl⟩
      cases b1
      · go_wp2
        go_ret
        exact ⟨rfl, HK.out⟩
      go_wp2_with fail
      refine (F2.out _).mono ?_
      rintro e w ⟨rfl, rfl⟩
      cases b2
      · go_wp2
        go_ret
        exact ⟨rfl, HK.out⟩
      go_wp2_with fail
      refine (F3.out _).mono ?_
      rintro e w ⟨rfl, rfl⟩
      cases b3
      · go_wp2
        go_ret
        exact ⟨rfl, HK.out⟩
      go_wp2_with fail
      refine (F4.out _).mono ?_
      rintro e w ⟨rfl, rfl⟩
      cases b4
      · go_wp2
        go_ret
        exact ⟨rfl, HK.out⟩
      go_wp2
      go_ret
      exact ⟨rfl, HK.out⟩
    · go_enter Try.func10, Try.ntmps10
      go_wp2_with fail
      refine (F1.out _).mono ?_
      rintro e w ⟨rfl, rfl⟩
      cases b1
      · go_wp2
        go_ret
        exact ⟨rfl, HK.out⟩
      go_wp2_with fail
      refine (F2.out _).mono ?_
      rintro e w ⟨rfl, rfl⟩
      cases b2
      · go_wp2
        go_ret
        exact ⟨rfl, HK.out⟩
      go_wp2_with fail
      refine (F3.out _).mono ?_
      rintro e w ⟨rfl, rfl⟩
      cases b3
      · go_wp2
        go_ret
        exact ⟨rfl, HK.out⟩
      go_wp2_with fail
      refine (F4.out _).mono ?_
      rintro e w ⟨rfl, rfl⟩
      cases b4
      · go_wp2
        go_ret
        exact ⟨rfl, HK.out⟩
      go_wp2
      go_ret
      exact ⟨rfl, HK.out⟩
  · rw [show (decide (k = 1) || decide (k = 2)) = false by simpa using hk, Bool.false_and, Bool.false_and, Bool.false_and, Bool.false_and, Bool.false_and]
    have hk1 : (k == 1) = false := by simp; omega
    have hk2 : (k == 2) = false := by simp; omega
    go_enter Try.func10, Try.ntmps10
    go_wp2
    go_ret
    exact ⟨rfl, HK.out⟩
end Go.Proofs.Ytcdcnlaijbjonaa
