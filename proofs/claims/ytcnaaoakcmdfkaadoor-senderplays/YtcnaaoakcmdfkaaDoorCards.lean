/-
  DERIVED. GIVEN WITH THE SEED: THE CARDS: each row of YtcnaaoakcmdfkaaDoorRows.lean that lists a variable, with what it lists TIED to the program's text (the seventh form; the later family's looks); each row that meets fmt, with fmt's text TOLD by the authors' own Lean function (tested against real Go, not proved from fmt's source: count such statements apart). THE CARD IS WHAT COUNTS. Prove the row's statement (the work); the ties are given (YtcnaaoakcmdfkaaDoorTie.lean); close each card by the builder's one call (the guide's Derived/Test/ToyasCard.lean, 'card_holds'). Laid BY PROGRAM, IN A SANDBOX (cutbox-door.mjs). By AI agents, Wed Nov 11 2026. No macro, syntax, notation, axiom, sorry.
-/
import Derived.Test.YtcnaaoakcmdfkaaDoorRows
import GoSem.ClaimSeven
namespace Go.Proofs.YtcnaaoakcmdfkaaDoor
namespace Rows

/-- THE TIED CARD OF 'signpostlaw13.SenderPlays'. -/
def senderPlaysCard : Claim7 := { stood := { row := senderPlaysRow, standIns := [], harness := (true, "554ae483f9e9f502615417fb0d3524028c2a08dd4716909f5bdc5e82ac887e20"), looks := false }, kinds := [], alts := [], laidByText := true, laidKinds := [.data], laidTests := true, laidLooks := .later }
def SenderPlaysCardSaid : Prop := Claim7.holds Tryd.pinned (.plain (OpenSpec.ofChange senderPlaysSpec)) senderPlaysCard

/-- THE TIED CARD OF 'signpostlaw13.SenderWindow'. -/
def senderWindowCard : Claim7 := { stood := { row := senderWindowRow, standIns := [], harness := (true, "554ae483f9e9f502615417fb0d3524028c2a08dd4716909f5bdc5e82ac887e20"), looks := false }, kinds := [], alts := [], laidByText := true, laidKinds := [.data], laidTests := true, laidLooks := .later }
def SenderWindowCardSaid : Prop := Claim7.holds Tryd.pinned (.plain (OpenSpec.ofChange senderWindowSpec)) senderWindowCard

/-- THE TIED CARD OF 'signpostlaw13.SenderLoses'. -/
def senderLosesCard : Claim7 := { stood := { row := senderLosesRow, standIns := [], harness := (true, "554ae483f9e9f502615417fb0d3524028c2a08dd4716909f5bdc5e82ac887e20"), looks := false }, kinds := [], alts := [], laidByText := true, laidKinds := [.data], laidTests := true, laidLooks := .later }
def SenderLosesCardSaid : Prop := Claim7.holds Tryd.pinned (.plain (OpenSpec.ofChange senderLosesSpec)) senderLosesCard

/-- THE TIED CARD OF 'signpostlaw13.SenderNil'. -/
def senderNilCard : Claim7 := { stood := { row := senderNilRow, standIns := [], harness := (true, "554ae483f9e9f502615417fb0d3524028c2a08dd4716909f5bdc5e82ac887e20"), looks := false }, kinds := [], alts := [], laidByText := true, laidKinds := [.data], laidTests := true, laidLooks := .later }
def SenderNilCardSaid : Prop := Claim7.holds Tryd.pinned (.plain (OpenSpec.ofChange senderNilSpec)) senderNilCard

/-- THE TIED CARD OF 'signpostlaw13.SenderAcks'. -/
def senderAcksCard : Claim7 := { stood := { row := senderAcksRow, standIns := [], harness := (true, "554ae483f9e9f502615417fb0d3524028c2a08dd4716909f5bdc5e82ac887e20"), looks := false }, kinds := [], alts := [], laidByText := true, laidKinds := [.data], laidTests := true, laidLooks := .later }
def SenderAcksCardSaid : Prop := Claim7.holds Tryd.pinned (.plain (OpenSpec.ofChange senderAcksSpec)) senderAcksCard

/-- THE TIED CARD OF 'signpostlaw13.SenderWhole'. -/
def senderWholeCard : Claim7 := { stood := { row := senderWholeRow, standIns := [], harness := (true, "554ae483f9e9f502615417fb0d3524028c2a08dd4716909f5bdc5e82ac887e20"), looks := false }, kinds := [], alts := [], laidByText := true, laidKinds := [.data], laidTests := true, laidLooks := .later }
def SenderWholeCardSaid : Prop := Claim7.holds Tryd.pinned (.plain (OpenSpec.ofChange senderWholeSpec)) senderWholeCard

/-- THE SECOND FORM's CARD OF 'signpostlaw13.SenderPlays'. -/
def senderPlaysUptoCard : Claim7 := { stood := { row := senderPlaysUptoRow, standIns := [], harness := (true, "554ae483f9e9f502615417fb0d3524028c2a08dd4716909f5bdc5e82ac887e20"), looks := false }, kinds := [], alts := [], laidByText := true, laidKinds := [.data], laidTests := true, laidLooks := .later }
def SenderPlaysUptoCardSaid : Prop := Claim7.holds Tryd.pinned (.plain (OpenSpec.upto senderPlaysSpec)) senderPlaysUptoCard

/-- THE SECOND FORM's CARD OF 'signpostlaw13.SenderWindow'. -/
def senderWindowUptoCard : Claim7 := { stood := { row := senderWindowUptoRow, standIns := [], harness := (true, "554ae483f9e9f502615417fb0d3524028c2a08dd4716909f5bdc5e82ac887e20"), looks := false }, kinds := [], alts := [], laidByText := true, laidKinds := [.data], laidTests := true, laidLooks := .later }
def SenderWindowUptoCardSaid : Prop := Claim7.holds Tryd.pinned (.plain (OpenSpec.upto senderWindowSpec)) senderWindowUptoCard

/-- THE SECOND FORM's CARD OF 'signpostlaw13.SenderLoses'. -/
def senderLosesUptoCard : Claim7 := { stood := { row := senderLosesUptoRow, standIns := [], harness := (true, "554ae483f9e9f502615417fb0d3524028c2a08dd4716909f5bdc5e82ac887e20"), looks := false }, kinds := [], alts := [], laidByText := true, laidKinds := [.data], laidTests := true, laidLooks := .later }
def SenderLosesUptoCardSaid : Prop := Claim7.holds Tryd.pinned (.plain (OpenSpec.upto senderLosesSpec)) senderLosesUptoCard

/-- THE SECOND FORM's CARD OF 'signpostlaw13.SenderNil'. -/
def senderNilUptoCard : Claim7 := { stood := { row := senderNilUptoRow, standIns := [], harness := (true, "554ae483f9e9f502615417fb0d3524028c2a08dd4716909f5bdc5e82ac887e20"), looks := false }, kinds := [], alts := [], laidByText := true, laidKinds := [.data], laidTests := true, laidLooks := .later }
def SenderNilUptoCardSaid : Prop := Claim7.holds Tryd.pinned (.plain (OpenSpec.upto senderNilSpec)) senderNilUptoCard

/-- THE SECOND FORM's CARD OF 'signpostlaw13.SenderAcks'. -/
def senderAcksUptoCard : Claim7 := { stood := { row := senderAcksUptoRow, standIns := [], harness := (true, "554ae483f9e9f502615417fb0d3524028c2a08dd4716909f5bdc5e82ac887e20"), looks := false }, kinds := [], alts := [], laidByText := true, laidKinds := [.data], laidTests := true, laidLooks := .later }
def SenderAcksUptoCardSaid : Prop := Claim7.holds Tryd.pinned (.plain (OpenSpec.upto senderAcksSpec)) senderAcksUptoCard

/-- THE SECOND FORM's CARD OF 'signpostlaw13.SenderWhole'. -/
def senderWholeUptoCard : Claim7 := { stood := { row := senderWholeUptoRow, standIns := [], harness := (true, "554ae483f9e9f502615417fb0d3524028c2a08dd4716909f5bdc5e82ac887e20"), looks := false }, kinds := [], alts := [], laidByText := true, laidKinds := [.data], laidTests := true, laidLooks := .later }
def SenderWholeUptoCardSaid : Prop := Claim7.holds Tryd.pinned (.plain (OpenSpec.upto senderWholeSpec)) senderWholeUptoCard
end Rows
end Go.Proofs.YtcnaaoakcmdfkaaDoor
