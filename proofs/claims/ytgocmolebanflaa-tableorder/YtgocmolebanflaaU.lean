/- Proved: two addresses, two prefixes compared by the language's own '=='. Condition: an address has sixteen bytes. -/
import Derived.Test.YtgocmolebanflaaS
import Derived.Stop.BytesEq
namespace Go.Proofs.Ytgocmolebanflaa
open Go.RowKit

theorem eq_ac (d : Nat) (l m : List UInt8) (hl : l.length = 16) (hm : m.length = 16) (w : World) : (Op.equalIn (d + 2) 23 (.agg (ac l)) (.agg (ac m))).run Try.prog w = .ok (decide (l = m)) w := by
  have h := run_equalIn_bytes (P := Try.prog) w d 23 5 16 Try.underlying23 Try.underlying5 (fun w => Try.sizeOf5 w) l m hl hm
  rw [show decide (l = m) = (l == m) by rw [Bool.eq_iff_iff]; simp]
  exact h
theorem eql_ac (l m : List UInt8) (hl : l.length = 16) (hm : m.length = 16) (w : World) : (binOp .eql 23 (.agg (ac l)) (.agg (ac m))).run Try.prog w = .ok (.bool (decide (l = m))) w := by
  rw [run_eql_struct, eq_ac 9998 l m hl hm]
  rfl
instance : DecidableEq Px := fun a b => decidable_of_iff (a.six = b.six ∧ a.addr = b.addr ∧ a.len = b.len) ⟨fun h => by cases a; cases b; simp at h; simp [h], fun h => by rw [h]; simp⟩
theorem pc_ext (p : Px) (h : p.addr.length = 16) : (pc p).extract 1 17 = ac p.addr := by
  apply Array.ext'
  simp only [Array.toList_extract, pc, ac]
  simp [List.extract_eq_take_drop, h]
theorem eq_pc (p q : Px) (hp : p.addr.length = 16) (hq : q.addr.length = 16) (w : World) : (Op.equalIn 10000 25 (.agg (pc p)) (.agg (pc q))).run Try.prog w = .ok (decide (p = q)) w := by
  have a0 := pc_six p
  have a17 := pc_len p hp
  have a1 := pc_ext p hp
  have b0 := pc_six q
  have b17 := pc_len q hq
  have b1 := pc_ext q hq
  have he := eq_ac 9997 p.addr q.addr hp hq
  rw [run_equalIn_struct (P := Try.prog) w 9999 25 _ _ (by kernel_rfl) (by kernel_rfl)]
  have e : decide (p = q) = (decide (p.six = q.six) && (decide (p.addr = q.addr) && decide (p.len = q.len))) := by
    rw [Bool.eq_iff_iff]
    simp only [Bool.and_eq_true, decide_eq_true_eq]
    constructor
    · intro h; rw [h]; simp
    · intro h; cases p; cases q; simp at h; simp [h]
  rw [e]
  generalize pc p = A at *
  generalize pc q = B at *
  have hf : (Try.prog.fieldsOf 25).toList = [{ name := "Six", type := 4, offset := 0, embedded := false, tag := "", pkgPath := "", byteOffset := 0 }, { name := "Addr", type := 23, offset := 1, embedded := false, tag := "", pkgPath := "", byteOffset := 1 }, { name := "Len", type := 3, offset := 17, embedded := false, tag := "", pkgPath := "", byteOffset := 24 }] := by kernel_rfl
  rw [hf]
  simp only [Op.eqFields]
  go_simp
  by_cases h1 : p.six = q.six <;> by_cases h2 : p.addr = q.addr <;> by_cases h3 : p.len = q.len <;> simp [h1, h2, h3]
end Go.Proofs.Ytgocmolebanflaa
