/-
  NARROWER THAN 'FOR EVERY INPUT', by the rows' own cells (each row's printed sentence says how): ReceiverPlays: laid · ReceiverResumes: laid · ReceiverCursors: laid · ReceiverNil: laid · ReceiverOrder: laid · ReceiverDrops: laid · ReceiverOwn: laid.
  DERIVED. THE GIVEN ROWS OF THIS SEAT. 7 by the template 'for every input the law returns true; each argument reads behind the call as it read before'; 0 by the template 'total and deterministic' (their statements: YtifcibmpeolmdaaDoorTotals.lean).
  GIVEN WITH THE SEED: the statements are not yours to turn. If you find one false, say at which input.
  Laid BY PROGRAM, IN A SANDBOX (cutbox-rows.mjs): the forced cells as the released guide's own fill.sh prints them over the translation 81828ca35e68d474… (all of the seat's roots in one cut). By AI agents, Wed Nov 11 2026. No macro, syntax, notation, axiom, sorry.
-/
import Derived.Test.YtifcibmpeolmdaaDoorChecked
import GoSem.Claim
import GoSem.ClaimJoined
import GoSem.ClaimMapViews
import Derived.JoinedTies
import Derived.KernelRfl
namespace Go.Proofs.YtifcibmpeolmdaaDoor
/- THE CELL 'sum', in the pinned program and in every row, IS THE sha256 OF THE DUMP (.gsa) THAT YtifcibmpeolmdaaDoorProg.lean LOADS. Nothing in Lean hashes anything: it is a label: what it is worth is what the hold of that sum in a sandbox is worth. -/
noncomputable def Tryd.pinned : Pinned := { name := "ytifcibmpeolmdaadoor", sum := "81828ca35e68d474e7d02f9798640e2643b44b63bb48e3cc50ede40a110d110c", checked := Tryd.checked }
namespace Rows
def none {H : Type} : Left H := { results := [], args := [] }

/- WHAT THE LISTED PACKAGE-LEVEL VARIABLES READ AS WHEN THE CALL BEGINS. Each datum BY PROGRAM (the guide's laid-datum.mjs) off the statement by which the dump's own 'gosem.cut.vars' lays the variable. In a bare row this is a premise. The card (YtifcibmpeolmdaaDoorCards.lean) ties it to the program's text. -/
def laid_math_bits_deBruijn64tab {H : Type} : DataW H := .agg [.lit (.int .u8 0), .lit (.int .u8 1), .lit (.int .u8 56), .lit (.int .u8 2), .lit (.int .u8 57), .lit (.int .u8 49), .lit (.int .u8 28), .lit (.int .u8 3), .lit (.int .u8 61), .lit (.int .u8 58), .lit (.int .u8 42), .lit (.int .u8 50), .lit (.int .u8 38), .lit (.int .u8 29), .lit (.int .u8 17), .lit (.int .u8 4), .lit (.int .u8 62), .lit (.int .u8 47), .lit (.int .u8 59), .lit (.int .u8 36), .lit (.int .u8 45), .lit (.int .u8 43), .lit (.int .u8 51), .lit (.int .u8 22), .lit (.int .u8 53), .lit (.int .u8 39), .lit (.int .u8 33), .lit (.int .u8 30), .lit (.int .u8 24), .lit (.int .u8 18), .lit (.int .u8 12), .lit (.int .u8 5), .lit (.int .u8 63), .lit (.int .u8 55), .lit (.int .u8 48), .lit (.int .u8 27), .lit (.int .u8 60), .lit (.int .u8 41), .lit (.int .u8 37), .lit (.int .u8 16), .lit (.int .u8 46), .lit (.int .u8 35), .lit (.int .u8 44), .lit (.int .u8 21), .lit (.int .u8 52), .lit (.int .u8 32), .lit (.int .u8 23), .lit (.int .u8 11), .lit (.int .u8 54), .lit (.int .u8 26), .lit (.int .u8 40), .lit (.int .u8 15), .lit (.int .u8 34), .lit (.int .u8 20), .lit (.int .u8 31), .lit (.int .u8 10), .lit (.int .u8 25), .lit (.int .u8 14), .lit (.int .u8 19), .lit (.int .u8 9), .lit (.int .u8 13), .lit (.int .u8 8), .lit (.int .u8 7), .lit (.int .u8 6)]

/-- 'signpostlaw14.ReceiverPlays': WHATEVER THE INPUT: true; the input reads as it did. -/
def receiverPlaysSpec : ChangeSpec := { name := "receiverPlays", fn := fun _ => fun
  | [d1, d2, d3, d4] => { results := [.lit (.bool true)], args := [d1, d2, d3, d4] }
  | _ => none }
def receiverPlaysRow : OpenClaim := { program := "ytifcibmpeolmdaadoor", sum := "81828ca35e68d474e7d02f9798640e2643b44b63bb48e3cc50ede40a110d110c", func := "signpost/signpostlaw14.ReceiverPlays", spec := "receiverPlays", inPlace := ["internal/abi.NoEscape", "internal/bytealg.MakeNoZero"], recurses := true, named := ["math/bits.deBruijn64tab"], apart := false, laid := [("math/bits.deBruijn64tab", laid_math_bits_deBruijn64tab)] }
def ReceiverPlaysSaid : Prop := receiverPlaysRow.holds Tryd.pinned (OpenSpec.ofChange receiverPlaysSpec)

/-- ITS FALSE NEIGHBOUR: 'it returns false'. Refute it at one input. -/
def receiverPlaysWrong : ChangeSpec := { name := "receiverPlays", fn := fun _ => fun
  | [d1, d2, d3, d4] => { results := [.lit (.bool false)], args := [d1, d2, d3, d4] }
  | _ => none }
def ReceiverPlaysWrongFalsely : Prop := receiverPlaysRow.holds Tryd.pinned (OpenSpec.ofChange receiverPlaysWrong)

/-- 'signpostlaw14.ReceiverResumes': WHATEVER THE INPUT: true; the input reads as it did. -/
def receiverResumesSpec : ChangeSpec := { name := "receiverResumes", fn := fun _ => fun
  | [d1, d2, d3] => { results := [.lit (.bool true)], args := [d1, d2, d3] }
  | _ => none }
def receiverResumesRow : OpenClaim := { program := "ytifcibmpeolmdaadoor", sum := "81828ca35e68d474e7d02f9798640e2643b44b63bb48e3cc50ede40a110d110c", func := "signpost/signpostlaw14.ReceiverResumes", spec := "receiverResumes", inPlace := ["internal/abi.NoEscape", "internal/bytealg.MakeNoZero"], named := ["math/bits.deBruijn64tab"], apart := false, laid := [("math/bits.deBruijn64tab", laid_math_bits_deBruijn64tab)] }
def ReceiverResumesSaid : Prop := receiverResumesRow.holds Tryd.pinned (OpenSpec.ofChange receiverResumesSpec)

/-- ITS FALSE NEIGHBOUR: 'it returns false'. Refute it at one input. -/
def receiverResumesWrong : ChangeSpec := { name := "receiverResumes", fn := fun _ => fun
  | [d1, d2, d3] => { results := [.lit (.bool false)], args := [d1, d2, d3] }
  | _ => none }
def ReceiverResumesWrongFalsely : Prop := receiverResumesRow.holds Tryd.pinned (OpenSpec.ofChange receiverResumesWrong)

/-- 'signpostlaw14.ReceiverCursors': WHATEVER THE INPUT: true; the input reads as it did. -/
def receiverCursorsSpec : ChangeSpec := { name := "receiverCursors", fn := fun _ => fun
  | [d] => { results := [.lit (.bool true)], args := [d] }
  | _ => none }
def receiverCursorsRow : OpenClaim := { program := "ytifcibmpeolmdaadoor", sum := "81828ca35e68d474e7d02f9798640e2643b44b63bb48e3cc50ede40a110d110c", func := "signpost/signpostlaw14.ReceiverCursors", spec := "receiverCursors", inPlace := ["internal/abi.NoEscape", "internal/bytealg.MakeNoZero"], named := ["math/bits.deBruijn64tab"], apart := false, laid := [("math/bits.deBruijn64tab", laid_math_bits_deBruijn64tab)] }
def ReceiverCursorsSaid : Prop := receiverCursorsRow.holds Tryd.pinned (OpenSpec.ofChange receiverCursorsSpec)

/-- ITS FALSE NEIGHBOUR: 'it returns false'. Refute it at one input. -/
def receiverCursorsWrong : ChangeSpec := { name := "receiverCursors", fn := fun _ => fun
  | [d] => { results := [.lit (.bool false)], args := [d] }
  | _ => none }
def ReceiverCursorsWrongFalsely : Prop := receiverCursorsRow.holds Tryd.pinned (OpenSpec.ofChange receiverCursorsWrong)

/-- 'signpostlaw14.ReceiverNil': WHATEVER THE INPUT: true; the input reads as it did. -/
def receiverNilSpec : ChangeSpec := { name := "receiverNil", fn := fun _ => fun
  | [d] => { results := [.lit (.bool true)], args := [d] }
  | _ => none }
def receiverNilRow : OpenClaim := { program := "ytifcibmpeolmdaadoor", sum := "81828ca35e68d474e7d02f9798640e2643b44b63bb48e3cc50ede40a110d110c", func := "signpost/signpostlaw14.ReceiverNil", spec := "receiverNil", inPlace := ["internal/abi.NoEscape", "internal/bytealg.MakeNoZero"], named := ["math/bits.deBruijn64tab"], apart := false, laid := [("math/bits.deBruijn64tab", laid_math_bits_deBruijn64tab)] }
def ReceiverNilSaid : Prop := receiverNilRow.holds Tryd.pinned (OpenSpec.ofChange receiverNilSpec)

/-- ITS FALSE NEIGHBOUR: 'it returns false'. Refute it at one input. -/
def receiverNilWrong : ChangeSpec := { name := "receiverNil", fn := fun _ => fun
  | [d] => { results := [.lit (.bool false)], args := [d] }
  | _ => none }
def ReceiverNilWrongFalsely : Prop := receiverNilRow.holds Tryd.pinned (OpenSpec.ofChange receiverNilWrong)

/-- 'signpostlaw14.ReceiverOrder': WHATEVER THE INPUT: true; the input reads as it did. -/
def receiverOrderSpec : ChangeSpec := { name := "receiverOrder", fn := fun _ => fun
  | [d1, d2] => { results := [.lit (.bool true)], args := [d1, d2] }
  | _ => none }
def receiverOrderRow : OpenClaim := { program := "ytifcibmpeolmdaadoor", sum := "81828ca35e68d474e7d02f9798640e2643b44b63bb48e3cc50ede40a110d110c", func := "signpost/signpostlaw14.ReceiverOrder", spec := "receiverOrder", inPlace := ["internal/abi.NoEscape", "internal/bytealg.MakeNoZero"], unfollowed := true, recurses := true, named := ["math/bits.deBruijn64tab"], apart := false, laid := [("math/bits.deBruijn64tab", laid_math_bits_deBruijn64tab)] }
def ReceiverOrderSaid : Prop := receiverOrderRow.holds Tryd.pinned (OpenSpec.ofChange receiverOrderSpec)

/-- ITS FALSE NEIGHBOUR: 'it returns false'. Refute it at one input. -/
def receiverOrderWrong : ChangeSpec := { name := "receiverOrder", fn := fun _ => fun
  | [d1, d2] => { results := [.lit (.bool false)], args := [d1, d2] }
  | _ => none }
def ReceiverOrderWrongFalsely : Prop := receiverOrderRow.holds Tryd.pinned (OpenSpec.ofChange receiverOrderWrong)

/-- 'signpostlaw14.ReceiverDrops': WHATEVER THE INPUT: true; the input reads as it did. -/
def receiverDropsSpec : ChangeSpec := { name := "receiverDrops", fn := fun _ => fun
  | [d] => { results := [.lit (.bool true)], args := [d] }
  | _ => none }
def receiverDropsRow : OpenClaim := { program := "ytifcibmpeolmdaadoor", sum := "81828ca35e68d474e7d02f9798640e2643b44b63bb48e3cc50ede40a110d110c", func := "signpost/signpostlaw14.ReceiverDrops", spec := "receiverDrops", inPlace := ["internal/abi.NoEscape", "internal/bytealg.MakeNoZero"], named := ["math/bits.deBruijn64tab"], apart := false, laid := [("math/bits.deBruijn64tab", laid_math_bits_deBruijn64tab)] }
def ReceiverDropsSaid : Prop := receiverDropsRow.holds Tryd.pinned (OpenSpec.ofChange receiverDropsSpec)

/-- ITS FALSE NEIGHBOUR: 'it returns false'. Refute it at one input. -/
def receiverDropsWrong : ChangeSpec := { name := "receiverDrops", fn := fun _ => fun
  | [d] => { results := [.lit (.bool false)], args := [d] }
  | _ => none }
def ReceiverDropsWrongFalsely : Prop := receiverDropsRow.holds Tryd.pinned (OpenSpec.ofChange receiverDropsWrong)

/-- 'signpostlaw14.ReceiverOwn': WHATEVER THE INPUT: true; the input reads as it did. -/
def receiverOwnSpec : ChangeSpec := { name := "receiverOwn", fn := fun _ => fun
  | [d1, d2] => { results := [.lit (.bool true)], args := [d1, d2] }
  | _ => none }
def receiverOwnRow : OpenClaim := { program := "ytifcibmpeolmdaadoor", sum := "81828ca35e68d474e7d02f9798640e2643b44b63bb48e3cc50ede40a110d110c", func := "signpost/signpostlaw14.ReceiverOwn", spec := "receiverOwn", inPlace := ["internal/abi.NoEscape", "internal/bytealg.MakeNoZero"], named := ["math/bits.deBruijn64tab"], apart := false, laid := [("math/bits.deBruijn64tab", laid_math_bits_deBruijn64tab)] }
def ReceiverOwnSaid : Prop := receiverOwnRow.holds Tryd.pinned (OpenSpec.ofChange receiverOwnSpec)

/-- ITS FALSE NEIGHBOUR: 'it returns false'. Refute it at one input. -/
def receiverOwnWrong : ChangeSpec := { name := "receiverOwn", fn := fun _ => fun
  | [d1, d2] => { results := [.lit (.bool false)], args := [d1, d2] }
  | _ => none }
def ReceiverOwnWrongFalsely : Prop := receiverOwnRow.holds Tryd.pinned (OpenSpec.ofChange receiverOwnWrong)

/- THE SECOND FORM. 'bulk': how many values and letters a reading holds, each counted each time it is reached (what is shared counts as often as it is met; a slice's spare places count too). A statement '..UptoSaid' is the law's where the arguments, and the package variables that the reading takes, are together of bulk at most 1048576: NARROWER than '..Said'. Prove '..Said' where nothing that the law and all that it calls make is longer than what came in: it says more and counts as full. Else prove '..UptoSaid'. A law counts once. -/
mutual
def uptoBulk {H : Type} : DataW H → Nat
  | .lit (.string bytes) => bytes.length + 1
  | .lit _ => 1
  | .nil => 1
  | .ptr d => uptoBulk d + 1
  | .slice elems spare => uptoBulkAll elems + uptoBulkAll spare + 1
  | .agg parts => uptoBulkAll parts + 1
  | .iface _ d => uptoBulk d + 1
  | .map entries => uptoBulkEntries entries + 1
  | .held _ => 1
def uptoBulkAll {H : Type} : List (DataW H) → Nat
  | [] => 0
  | d :: r => uptoBulk d + uptoBulkAll r
def uptoBulkEntries {H : Type} : List (Lit × DataW H) → Nat
  | [] => 0
  | x :: r => uptoBulkEntry x + uptoBulkEntries r
def uptoBulkEntry {H : Type} : Lit × DataW H → Nat
  | (.string bytes, d) => bytes.length + uptoBulk d + 1
  | (_, d) => uptoBulk d + 1
 end
def uptoSmall : (H : Type) → List (DataW H) → Bool := fun _ ds => decide (uptoBulkAll ds ≤ 1048576)
def OpenSpec.upto (s : _root_.Go.ChangeSpec) : _root_.Go.OpenSpec := { _root_.Go.OpenSpec.ofChange s with cond := some uptoSmall }

/-- 'signpostlaw14.ReceiverPlays', WHERE WHAT IT READS IS OF BULK AT MOST 1048576: true; the input reads as it did. -/
def receiverPlaysUptoRow : OpenClaim := { program := "ytifcibmpeolmdaadoor", sum := "81828ca35e68d474e7d02f9798640e2643b44b63bb48e3cc50ede40a110d110c", func := "signpost/signpostlaw14.ReceiverPlays", spec := "receiverPlays", inPlace := ["internal/abi.NoEscape", "internal/bytealg.MakeNoZero"], recurses := true, named := ["math/bits.deBruijn64tab"], apart := false, laid := [("math/bits.deBruijn64tab", laid_math_bits_deBruijn64tab)], narrowed := true }
def ReceiverPlaysUptoSaid : Prop := receiverPlaysUptoRow.holds Tryd.pinned (OpenSpec.upto receiverPlaysSpec)

/-- 'signpostlaw14.ReceiverResumes', WHERE WHAT IT READS IS OF BULK AT MOST 1048576: true; the input reads as it did. -/
def receiverResumesUptoRow : OpenClaim := { program := "ytifcibmpeolmdaadoor", sum := "81828ca35e68d474e7d02f9798640e2643b44b63bb48e3cc50ede40a110d110c", func := "signpost/signpostlaw14.ReceiverResumes", spec := "receiverResumes", inPlace := ["internal/abi.NoEscape", "internal/bytealg.MakeNoZero"], named := ["math/bits.deBruijn64tab"], apart := false, laid := [("math/bits.deBruijn64tab", laid_math_bits_deBruijn64tab)], narrowed := true }
def ReceiverResumesUptoSaid : Prop := receiverResumesUptoRow.holds Tryd.pinned (OpenSpec.upto receiverResumesSpec)

/-- 'signpostlaw14.ReceiverCursors', WHERE WHAT IT READS IS OF BULK AT MOST 1048576: true; the input reads as it did. -/
def receiverCursorsUptoRow : OpenClaim := { program := "ytifcibmpeolmdaadoor", sum := "81828ca35e68d474e7d02f9798640e2643b44b63bb48e3cc50ede40a110d110c", func := "signpost/signpostlaw14.ReceiverCursors", spec := "receiverCursors", inPlace := ["internal/abi.NoEscape", "internal/bytealg.MakeNoZero"], named := ["math/bits.deBruijn64tab"], apart := false, laid := [("math/bits.deBruijn64tab", laid_math_bits_deBruijn64tab)], narrowed := true }
def ReceiverCursorsUptoSaid : Prop := receiverCursorsUptoRow.holds Tryd.pinned (OpenSpec.upto receiverCursorsSpec)

/-- 'signpostlaw14.ReceiverNil', WHERE WHAT IT READS IS OF BULK AT MOST 1048576: true; the input reads as it did. -/
def receiverNilUptoRow : OpenClaim := { program := "ytifcibmpeolmdaadoor", sum := "81828ca35e68d474e7d02f9798640e2643b44b63bb48e3cc50ede40a110d110c", func := "signpost/signpostlaw14.ReceiverNil", spec := "receiverNil", inPlace := ["internal/abi.NoEscape", "internal/bytealg.MakeNoZero"], named := ["math/bits.deBruijn64tab"], apart := false, laid := [("math/bits.deBruijn64tab", laid_math_bits_deBruijn64tab)], narrowed := true }
def ReceiverNilUptoSaid : Prop := receiverNilUptoRow.holds Tryd.pinned (OpenSpec.upto receiverNilSpec)

/-- 'signpostlaw14.ReceiverOrder', WHERE WHAT IT READS IS OF BULK AT MOST 1048576: true; the input reads as it did. -/
def receiverOrderUptoRow : OpenClaim := { program := "ytifcibmpeolmdaadoor", sum := "81828ca35e68d474e7d02f9798640e2643b44b63bb48e3cc50ede40a110d110c", func := "signpost/signpostlaw14.ReceiverOrder", spec := "receiverOrder", inPlace := ["internal/abi.NoEscape", "internal/bytealg.MakeNoZero"], unfollowed := true, recurses := true, named := ["math/bits.deBruijn64tab"], apart := false, laid := [("math/bits.deBruijn64tab", laid_math_bits_deBruijn64tab)], narrowed := true }
def ReceiverOrderUptoSaid : Prop := receiverOrderUptoRow.holds Tryd.pinned (OpenSpec.upto receiverOrderSpec)

/-- 'signpostlaw14.ReceiverDrops', WHERE WHAT IT READS IS OF BULK AT MOST 1048576: true; the input reads as it did. -/
def receiverDropsUptoRow : OpenClaim := { program := "ytifcibmpeolmdaadoor", sum := "81828ca35e68d474e7d02f9798640e2643b44b63bb48e3cc50ede40a110d110c", func := "signpost/signpostlaw14.ReceiverDrops", spec := "receiverDrops", inPlace := ["internal/abi.NoEscape", "internal/bytealg.MakeNoZero"], named := ["math/bits.deBruijn64tab"], apart := false, laid := [("math/bits.deBruijn64tab", laid_math_bits_deBruijn64tab)], narrowed := true }
def ReceiverDropsUptoSaid : Prop := receiverDropsUptoRow.holds Tryd.pinned (OpenSpec.upto receiverDropsSpec)

/-- 'signpostlaw14.ReceiverOwn', WHERE WHAT IT READS IS OF BULK AT MOST 1048576: true; the input reads as it did. -/
def receiverOwnUptoRow : OpenClaim := { program := "ytifcibmpeolmdaadoor", sum := "81828ca35e68d474e7d02f9798640e2643b44b63bb48e3cc50ede40a110d110c", func := "signpost/signpostlaw14.ReceiverOwn", spec := "receiverOwn", inPlace := ["internal/abi.NoEscape", "internal/bytealg.MakeNoZero"], named := ["math/bits.deBruijn64tab"], apart := false, laid := [("math/bits.deBruijn64tab", laid_math_bits_deBruijn64tab)], narrowed := true }
def ReceiverOwnUptoSaid : Prop := receiverOwnUptoRow.holds Tryd.pinned (OpenSpec.upto receiverOwnSpec)

end Rows
end Go.Proofs.YtifcibmpeolmdaaDoor
