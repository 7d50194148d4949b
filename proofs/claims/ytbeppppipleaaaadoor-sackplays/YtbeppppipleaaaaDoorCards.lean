/-
  DERIVED. GIVEN WITH THE SEED: THE CARDS: each row of YtbeppppipleaaaaDoorRows.lean that lists a variable, with what it lists TIED to the program's text (the seventh form; the later family's looks); each row that meets fmt, with fmt's text TOLD by the authors' own Lean function (tested against real Go, not proved from fmt's source: count such statements apart). THE CARD IS WHAT COUNTS. Prove the row's statement (the work); the ties are given (YtbeppppipleaaaaDoorTie.lean); close each card by the builder's one call (the guide's Derived/Test/ToyasCard.lean, 'card_holds'). Laid BY PROGRAM, IN A SANDBOX (cutbox-door.mjs). By AI agents, Wed Nov 11 2026. No macro, syntax, notation, axiom, sorry.
-/
import Derived.Test.YtbeppppipleaaaaDoorRows
import GoSem.ClaimSeven
namespace Go.Proofs.YtbeppppipleaaaaDoor
namespace Rows

/-- THE TIED CARD OF 'signpostlaw12.SackPlays'. -/
def sackPlaysCard : Claim7 := { stood := { row := sackPlaysRow, standIns := [], harness := (true, "99409968b706bc054abbf054ee1bf7ec98067583eb760e09000fa6ba98158752"), looks := false }, kinds := [], alts := [], laidByText := true, laidKinds := [.data], laidTests := true, laidLooks := .later }
def SackPlaysCardSaid : Prop := Claim7.holds Tryd.pinned (.plain (OpenSpec.ofChange sackPlaysSpec)) sackPlaysCard

/-- THE TIED CARD OF 'signpostlaw12.SackTells'. -/
def sackTellsCard : Claim7 := { stood := { row := sackTellsRow, standIns := [], harness := (true, "99409968b706bc054abbf054ee1bf7ec98067583eb760e09000fa6ba98158752"), looks := false }, kinds := [], alts := [], laidByText := true, laidKinds := [.data], laidTests := true, laidLooks := .later }
def SackTellsCardSaid : Prop := Claim7.holds Tryd.pinned (.plain (OpenSpec.ofChange sackTellsSpec)) sackTellsCard

/-- THE TIED CARD OF 'signpostlaw12.SackMissing'. -/
def sackMissingCard : Claim7 := { stood := { row := sackMissingRow, standIns := [], harness := (true, "99409968b706bc054abbf054ee1bf7ec98067583eb760e09000fa6ba98158752"), looks := false }, kinds := [], alts := [], laidByText := true, laidKinds := [.data], laidTests := true, laidLooks := .later }
def SackMissingCardSaid : Prop := Claim7.holds Tryd.pinned (.plain (OpenSpec.ofChange sackMissingSpec)) sackMissingCard

/-- THE TIED CARD OF 'signpostlaw12.SackNil'. -/
def sackNilCard : Claim7 := { stood := { row := sackNilRow, standIns := [], harness := (true, "99409968b706bc054abbf054ee1bf7ec98067583eb760e09000fa6ba98158752"), looks := false }, kinds := [], alts := [], laidByText := true, laidKinds := [.data], laidTests := true, laidLooks := .later }
def SackNilCardSaid : Prop := Claim7.holds Tryd.pinned (.plain (OpenSpec.ofChange sackNilSpec)) sackNilCard

/-- THE TIED CARD OF 'signpostlaw12.SackBase'. -/
def sackBaseCard : Claim7 := { stood := { row := sackBaseRow, standIns := [], harness := (true, "99409968b706bc054abbf054ee1bf7ec98067583eb760e09000fa6ba98158752"), looks := false }, kinds := [], alts := [], laidByText := true, laidKinds := [.data], laidTests := true, laidLooks := .later }
def SackBaseCardSaid : Prop := Claim7.holds Tryd.pinned (.plain (OpenSpec.ofChange sackBaseSpec)) sackBaseCard

/-- THE TIED CARD OF 'signpostlaw12.SackShort'. -/
def sackShortCard : Claim7 := { stood := { row := sackShortRow, standIns := [], harness := (true, "99409968b706bc054abbf054ee1bf7ec98067583eb760e09000fa6ba98158752"), looks := false }, kinds := [], alts := [], laidByText := true, laidKinds := [.data], laidTests := true, laidLooks := .later }
def SackShortCardSaid : Prop := Claim7.holds Tryd.pinned (.plain (OpenSpec.ofChange sackShortSpec)) sackShortCard

/-- THE TIED CARD OF 'signpostlaw12.SackCopies'. -/
def sackCopiesCard : Claim7 := { stood := { row := sackCopiesRow, standIns := [], harness := (true, "99409968b706bc054abbf054ee1bf7ec98067583eb760e09000fa6ba98158752"), looks := false }, kinds := [], alts := [], laidByText := true, laidKinds := [.data], laidTests := true, laidLooks := .later }
def SackCopiesCardSaid : Prop := Claim7.holds Tryd.pinned (.plain (OpenSpec.ofChange sackCopiesSpec)) sackCopiesCard

/-- THE SECOND FORM's CARD OF 'signpostlaw12.SackPlays'. -/
def sackPlaysUptoCard : Claim7 := { stood := { row := sackPlaysUptoRow, standIns := [], harness := (true, "99409968b706bc054abbf054ee1bf7ec98067583eb760e09000fa6ba98158752"), looks := false }, kinds := [], alts := [], laidByText := true, laidKinds := [.data], laidTests := true, laidLooks := .later }
def SackPlaysUptoCardSaid : Prop := Claim7.holds Tryd.pinned (.plain (OpenSpec.upto sackPlaysSpec)) sackPlaysUptoCard

/-- THE SECOND FORM's CARD OF 'signpostlaw12.SackTells'. -/
def sackTellsUptoCard : Claim7 := { stood := { row := sackTellsUptoRow, standIns := [], harness := (true, "99409968b706bc054abbf054ee1bf7ec98067583eb760e09000fa6ba98158752"), looks := false }, kinds := [], alts := [], laidByText := true, laidKinds := [.data], laidTests := true, laidLooks := .later }
def SackTellsUptoCardSaid : Prop := Claim7.holds Tryd.pinned (.plain (OpenSpec.upto sackTellsSpec)) sackTellsUptoCard

/-- THE SECOND FORM's CARD OF 'signpostlaw12.SackMissing'. -/
def sackMissingUptoCard : Claim7 := { stood := { row := sackMissingUptoRow, standIns := [], harness := (true, "99409968b706bc054abbf054ee1bf7ec98067583eb760e09000fa6ba98158752"), looks := false }, kinds := [], alts := [], laidByText := true, laidKinds := [.data], laidTests := true, laidLooks := .later }
def SackMissingUptoCardSaid : Prop := Claim7.holds Tryd.pinned (.plain (OpenSpec.upto sackMissingSpec)) sackMissingUptoCard

/-- THE SECOND FORM's CARD OF 'signpostlaw12.SackNil'. -/
def sackNilUptoCard : Claim7 := { stood := { row := sackNilUptoRow, standIns := [], harness := (true, "99409968b706bc054abbf054ee1bf7ec98067583eb760e09000fa6ba98158752"), looks := false }, kinds := [], alts := [], laidByText := true, laidKinds := [.data], laidTests := true, laidLooks := .later }
def SackNilUptoCardSaid : Prop := Claim7.holds Tryd.pinned (.plain (OpenSpec.upto sackNilSpec)) sackNilUptoCard

/-- THE SECOND FORM's CARD OF 'signpostlaw12.SackBase'. -/
def sackBaseUptoCard : Claim7 := { stood := { row := sackBaseUptoRow, standIns := [], harness := (true, "99409968b706bc054abbf054ee1bf7ec98067583eb760e09000fa6ba98158752"), looks := false }, kinds := [], alts := [], laidByText := true, laidKinds := [.data], laidTests := true, laidLooks := .later }
def SackBaseUptoCardSaid : Prop := Claim7.holds Tryd.pinned (.plain (OpenSpec.upto sackBaseSpec)) sackBaseUptoCard

/-- THE SECOND FORM's CARD OF 'signpostlaw12.SackShort'. -/
def sackShortUptoCard : Claim7 := { stood := { row := sackShortUptoRow, standIns := [], harness := (true, "99409968b706bc054abbf054ee1bf7ec98067583eb760e09000fa6ba98158752"), looks := false }, kinds := [], alts := [], laidByText := true, laidKinds := [.data], laidTests := true, laidLooks := .later }
def SackShortUptoCardSaid : Prop := Claim7.holds Tryd.pinned (.plain (OpenSpec.upto sackShortSpec)) sackShortUptoCard

/-- THE SECOND FORM's CARD OF 'signpostlaw12.SackCopies'. -/
def sackCopiesUptoCard : Claim7 := { stood := { row := sackCopiesUptoRow, standIns := [], harness := (true, "99409968b706bc054abbf054ee1bf7ec98067583eb760e09000fa6ba98158752"), looks := false }, kinds := [], alts := [], laidByText := true, laidKinds := [.data], laidTests := true, laidLooks := .later }
def SackCopiesUptoCardSaid : Prop := Claim7.holds Tryd.pinned (.plain (OpenSpec.upto sackCopiesSpec)) sackCopiesUptoCard
end Rows
end Go.Proofs.YtbeppppipleaaaaDoor
