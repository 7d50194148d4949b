/-
  No cell of these rows narrows 'for every input' (looked for: loops, veiled, ifaces, maps, wideKeys, modest, calm, conditions, laid).
  DERIVED. THE GIVEN ROWS OF THIS SEAT. 3 by the template 'for every input the law returns true; each argument reads behind the call as it read before'; 0 by the template 'total and deterministic' (their statements: YtpimecnpdpcceaaGreatTotals.lean).
  GIVEN WITH THE SEED: the statements are not yours to turn. If you find one false, say at which input.
  Laid BY PROGRAM, IN A SANDBOX (cutbox-rows.mjs): the forced cells as the released guide's own fill.sh prints them over the translation 4cd5b0c0ba919022… (all of the seat's roots in one cut). By AI agents, Wed Nov 11 2026. No macro, syntax, notation, axiom, sorry.
-/
import Derived.Test.YtpimecnpdpcceaaGreatChecked
import GoSem.Claim
import GoSem.ClaimJoined
import GoSem.ClaimMapViews
import Derived.JoinedTies
import Derived.KernelRfl
namespace Go.Proofs.YtpimecnpdpcceaaGreat
/- THE CELL 'sum', in the pinned program and in every row, IS THE sha256 OF THE DUMP (.gsa) THAT YtpimecnpdpcceaaGreatProg.lean LOADS. Nothing in Lean hashes anything: it is a label: what it is worth is what the hold of that sum in a sandbox is worth. -/
noncomputable def Tryz.pinned : Pinned := { name := "ytpimecnpdpcceaagreat", sum := "4cd5b0c0ba9190223ab3ad4ad5ee1d8ef468381dbb000c8e7bea56de3823b29c", checked := Tryz.checked }
namespace Rows
def none {H : Type} : Left H := { results := [], args := [] }

/-- 'signpostlaw07.DumpReads': WHATEVER THE INPUT: true; the input reads as it did. -/
def dumpReadsSpec : ChangeSpec := { name := "dumpReads", fn := fun _ => fun
  | [d] => { results := [.lit (.bool true)], args := [d] }
  | _ => none }
def dumpReadsRow : OpenClaim := { program := "ytpimecnpdpcceaagreat", sum := "4cd5b0c0ba9190223ab3ad4ad5ee1d8ef468381dbb000c8e7bea56de3823b29c", func := "signpost/signpostlaw07.DumpReads", spec := "dumpReads", inPlace := ["internal/bytealg.Compare"], unfollowed := true, recurses := true, apart := false }
def DumpReadsSaid : Prop := dumpReadsRow.holds Tryz.pinned (OpenSpec.ofChange dumpReadsSpec)

/-- ITS FALSE NEIGHBOUR: 'it returns false'. Refute it at one input. -/
def dumpReadsWrong : ChangeSpec := { name := "dumpReads", fn := fun _ => fun
  | [d] => { results := [.lit (.bool false)], args := [d] }
  | _ => none }
def DumpReadsWrongFalsely : Prop := dumpReadsRow.holds Tryz.pinned (OpenSpec.ofChange dumpReadsWrong)

/-- 'signpostlaw07.DumpUnpacks': WHATEVER THE INPUT: true; the input reads as it did. -/
def dumpUnpacksSpec : ChangeSpec := { name := "dumpUnpacks", fn := fun _ => fun
  | [d1, d2] => { results := [.lit (.bool true)], args := [d1, d2] }
  | _ => none }
def dumpUnpacksRow : OpenClaim := { program := "ytpimecnpdpcceaagreat", sum := "4cd5b0c0ba9190223ab3ad4ad5ee1d8ef468381dbb000c8e7bea56de3823b29c", func := "signpost/signpostlaw07.DumpUnpacks", spec := "dumpUnpacks", inPlace := ["internal/bytealg.Compare"], unfollowed := true, recurses := true, apart := false }
def DumpUnpacksSaid : Prop := dumpUnpacksRow.holds Tryz.pinned (OpenSpec.ofChange dumpUnpacksSpec)

/-- ITS FALSE NEIGHBOUR: 'it returns false'. Refute it at one input. -/
def dumpUnpacksWrong : ChangeSpec := { name := "dumpUnpacks", fn := fun _ => fun
  | [d1, d2] => { results := [.lit (.bool false)], args := [d1, d2] }
  | _ => none }
def DumpUnpacksWrongFalsely : Prop := dumpUnpacksRow.holds Tryz.pinned (OpenSpec.ofChange dumpUnpacksWrong)

/-- 'signpostlaw07.DumpOne': WHATEVER THE INPUT: true; the input reads as it did. -/
def dumpOneSpec : ChangeSpec := { name := "dumpOne", fn := fun _ => fun
  | [d1, d2, d3] => { results := [.lit (.bool true)], args := [d1, d2, d3] }
  | _ => none }
def dumpOneRow : OpenClaim := { program := "ytpimecnpdpcceaagreat", sum := "4cd5b0c0ba9190223ab3ad4ad5ee1d8ef468381dbb000c8e7bea56de3823b29c", func := "signpost/signpostlaw07.DumpOne", spec := "dumpOne", inPlace := ["internal/bytealg.Compare"], unfollowed := true, recurses := true, apart := false }
def DumpOneSaid : Prop := dumpOneRow.holds Tryz.pinned (OpenSpec.ofChange dumpOneSpec)

/-- ITS FALSE NEIGHBOUR: 'it returns false'. Refute it at one input. -/
def dumpOneWrong : ChangeSpec := { name := "dumpOne", fn := fun _ => fun
  | [d1, d2, d3] => { results := [.lit (.bool false)], args := [d1, d2, d3] }
  | _ => none }
def DumpOneWrongFalsely : Prop := dumpOneRow.holds Tryz.pinned (OpenSpec.ofChange dumpOneWrong)

/- THE SECOND FORM. 'bulk': how many values and letters a reading holds, each counted each time it is reached (what is shared counts as often as it is met; a slice's spare places count too). A statement '..UptoSaid' is the law's where the arguments, and the package variables that the reading takes, are together of bulk at most 1048576: NARROWER than '..Said'. Prove '..Said' where nothing that the law and all that it calls make is longer than what came in: it says more and counts as full. Else prove '..UptoSaid'. A law counts once. -/
mutual
def uptoBulk {H : Type} : DataW H → Nat
  | .lit (.string bytes) => bytes.length + 1
  | .lit _ => 1
  | .nil => 1
  | .ptr d => uptoBulk d + 1
  | .slice elems spare => uptoBulkAll elems + uptoBulkAll spare + 1
  | .agg parts => uptoBulkAll parts + 1
  | .iface _ d => uptoBulk d + 1
  | .map entries => uptoBulkEntries entries + 1
  | .held _ => 1
def uptoBulkAll {H : Type} : List (DataW H) → Nat
  | [] => 0
  | d :: r => uptoBulk d + uptoBulkAll r
def uptoBulkEntries {H : Type} : List (Lit × DataW H) → Nat
  | [] => 0
  | x :: r => uptoBulkEntry x + uptoBulkEntries r
def uptoBulkEntry {H : Type} : Lit × DataW H → Nat
  | (.string bytes, d) => bytes.length + uptoBulk d + 1
  | (_, d) => uptoBulk d + 1
 end
def uptoSmall : (H : Type) → List (DataW H) → Bool := fun _ ds => decide (uptoBulkAll ds ≤ 1048576)
def OpenSpec.upto (s : _root_.Go.ChangeSpec) : _root_.Go.OpenSpec := { _root_.Go.OpenSpec.ofChange s with cond := some uptoSmall }

/-- 'signpostlaw07.DumpReads', WHERE WHAT IT READS IS OF BULK AT MOST 1048576: true; the input reads as it did. -/
def dumpReadsUptoRow : OpenClaim := { program := "ytpimecnpdpcceaagreat", sum := "4cd5b0c0ba9190223ab3ad4ad5ee1d8ef468381dbb000c8e7bea56de3823b29c", func := "signpost/signpostlaw07.DumpReads", spec := "dumpReads", inPlace := ["internal/bytealg.Compare"], unfollowed := true, recurses := true, apart := false, narrowed := true }
def DumpReadsUptoSaid : Prop := dumpReadsUptoRow.holds Tryz.pinned (OpenSpec.upto dumpReadsSpec)

/-- 'signpostlaw07.DumpUnpacks', WHERE WHAT IT READS IS OF BULK AT MOST 1048576: true; the input reads as it did. -/
def dumpUnpacksUptoRow : OpenClaim := { program := "ytpimecnpdpcceaagreat", sum := "4cd5b0c0ba9190223ab3ad4ad5ee1d8ef468381dbb000c8e7bea56de3823b29c", func := "signpost/signpostlaw07.DumpUnpacks", spec := "dumpUnpacks", inPlace := ["internal/bytealg.Compare"], unfollowed := true, recurses := true, apart := false, narrowed := true }
def DumpUnpacksUptoSaid : Prop := dumpUnpacksUptoRow.holds Tryz.pinned (OpenSpec.upto dumpUnpacksSpec)

/-- 'signpostlaw07.DumpOne', WHERE WHAT IT READS IS OF BULK AT MOST 1048576: true; the input reads as it did. -/
def dumpOneUptoRow : OpenClaim := { program := "ytpimecnpdpcceaagreat", sum := "4cd5b0c0ba9190223ab3ad4ad5ee1d8ef468381dbb000c8e7bea56de3823b29c", func := "signpost/signpostlaw07.DumpOne", spec := "dumpOne", inPlace := ["internal/bytealg.Compare"], unfollowed := true, recurses := true, apart := false, narrowed := true }
def DumpOneUptoSaid : Prop := dumpOneUptoRow.holds Tryz.pinned (OpenSpec.upto dumpOneSpec)

end Rows
end Go.Proofs.YtpimecnpdpcceaaGreat
