/-
  DERIVED. GIVEN WITH THE SEED: THE CARDS: each row of YtifcibmpeolmdaaDoorRows.lean that lists a variable, with what it lists TIED to the program's text (the seventh form; the later family's looks); each row that meets fmt, with fmt's text TOLD by the authors' own Lean function (tested against real Go, not proved from fmt's source: count such statements apart). THE CARD IS WHAT COUNTS. Prove the row's statement (the work); the ties are given (YtifcibmpeolmdaaDoorTie.lean); close each card by the builder's one call (the guide's Derived/Test/ToyasCard.lean, 'card_holds'). Laid BY PROGRAM, IN A SANDBOX (cutbox-door.mjs). By AI agents, Wed Nov 11 2026. No macro, syntax, notation, axiom, sorry.
-/
import Derived.Test.YtifcibmpeolmdaaDoorRows
import GoSem.ClaimSeven
namespace Go.Proofs.YtifcibmpeolmdaaDoor
namespace Rows

/-- THE TIED CARD OF 'signpostlaw14.ReceiverPlays'. -/
def receiverPlaysCard : Claim7 := { stood := { row := receiverPlaysRow, standIns := [], harness := (true, "9f1138924d784bfed17d71e72dd25563e285159175c97e71dd8c43ba71e9644f"), looks := false }, kinds := [], alts := [], laidByText := true, laidKinds := [.data], laidTests := true, laidLooks := .later }
def ReceiverPlaysCardSaid : Prop := Claim7.holds Tryd.pinned (.plain (OpenSpec.ofChange receiverPlaysSpec)) receiverPlaysCard

/-- THE TIED CARD OF 'signpostlaw14.ReceiverResumes'. -/
def receiverResumesCard : Claim7 := { stood := { row := receiverResumesRow, standIns := [], harness := (true, "9f1138924d784bfed17d71e72dd25563e285159175c97e71dd8c43ba71e9644f"), looks := false }, kinds := [], alts := [], laidByText := true, laidKinds := [.data], laidTests := true, laidLooks := .later }
def ReceiverResumesCardSaid : Prop := Claim7.holds Tryd.pinned (.plain (OpenSpec.ofChange receiverResumesSpec)) receiverResumesCard

/-- THE TIED CARD OF 'signpostlaw14.ReceiverCursors'. -/
def receiverCursorsCard : Claim7 := { stood := { row := receiverCursorsRow, standIns := [], harness := (true, "9f1138924d784bfed17d71e72dd25563e285159175c97e71dd8c43ba71e9644f"), looks := false }, kinds := [], alts := [], laidByText := true, laidKinds := [.data], laidTests := true, laidLooks := .later }
def ReceiverCursorsCardSaid : Prop := Claim7.holds Tryd.pinned (.plain (OpenSpec.ofChange receiverCursorsSpec)) receiverCursorsCard

/-- THE TIED CARD OF 'signpostlaw14.ReceiverNil'. -/
def receiverNilCard : Claim7 := { stood := { row := receiverNilRow, standIns := [], harness := (true, "9f1138924d784bfed17d71e72dd25563e285159175c97e71dd8c43ba71e9644f"), looks := false }, kinds := [], alts := [], laidByText := true, laidKinds := [.data], laidTests := true, laidLooks := .later }
def ReceiverNilCardSaid : Prop := Claim7.holds Tryd.pinned (.plain (OpenSpec.ofChange receiverNilSpec)) receiverNilCard

/-- THE TIED CARD OF 'signpostlaw14.ReceiverOrder'. -/
def receiverOrderCard : Claim7 := { stood := { row := receiverOrderRow, standIns := [], harness := (true, "9f1138924d784bfed17d71e72dd25563e285159175c97e71dd8c43ba71e9644f"), looks := false }, kinds := [], alts := [], laidByText := true, laidKinds := [.data], laidTests := true, laidLooks := .later }
def ReceiverOrderCardSaid : Prop := Claim7.holds Tryd.pinned (.plain (OpenSpec.ofChange receiverOrderSpec)) receiverOrderCard

/-- THE TIED CARD OF 'signpostlaw14.ReceiverDrops'. -/
def receiverDropsCard : Claim7 := { stood := { row := receiverDropsRow, standIns := [], harness := (true, "9f1138924d784bfed17d71e72dd25563e285159175c97e71dd8c43ba71e9644f"), looks := false }, kinds := [], alts := [], laidByText := true, laidKinds := [.data], laidTests := true, laidLooks := .later }
def ReceiverDropsCardSaid : Prop := Claim7.holds Tryd.pinned (.plain (OpenSpec.ofChange receiverDropsSpec)) receiverDropsCard

/-- THE TIED CARD OF 'signpostlaw14.ReceiverOwn'. -/
def receiverOwnCard : Claim7 := { stood := { row := receiverOwnRow, standIns := [], harness := (true, "9f1138924d784bfed17d71e72dd25563e285159175c97e71dd8c43ba71e9644f"), looks := false }, kinds := [], alts := [], laidByText := true, laidKinds := [.data], laidTests := true, laidLooks := .later }
def ReceiverOwnCardSaid : Prop := Claim7.holds Tryd.pinned (.plain (OpenSpec.ofChange receiverOwnSpec)) receiverOwnCard

/-- THE SECOND FORM's CARD OF 'signpostlaw14.ReceiverPlays'. -/
def receiverPlaysUptoCard : Claim7 := { stood := { row := receiverPlaysUptoRow, standIns := [], harness := (true, "9f1138924d784bfed17d71e72dd25563e285159175c97e71dd8c43ba71e9644f"), looks := false }, kinds := [], alts := [], laidByText := true, laidKinds := [.data], laidTests := true, laidLooks := .later }
def ReceiverPlaysUptoCardSaid : Prop := Claim7.holds Tryd.pinned (.plain (OpenSpec.upto receiverPlaysSpec)) receiverPlaysUptoCard

/-- THE SECOND FORM's CARD OF 'signpostlaw14.ReceiverResumes'. -/
def receiverResumesUptoCard : Claim7 := { stood := { row := receiverResumesUptoRow, standIns := [], harness := (true, "9f1138924d784bfed17d71e72dd25563e285159175c97e71dd8c43ba71e9644f"), looks := false }, kinds := [], alts := [], laidByText := true, laidKinds := [.data], laidTests := true, laidLooks := .later }
def ReceiverResumesUptoCardSaid : Prop := Claim7.holds Tryd.pinned (.plain (OpenSpec.upto receiverResumesSpec)) receiverResumesUptoCard

/-- THE SECOND FORM's CARD OF 'signpostlaw14.ReceiverCursors'. -/
def receiverCursorsUptoCard : Claim7 := { stood := { row := receiverCursorsUptoRow, standIns := [], harness := (true, "9f1138924d784bfed17d71e72dd25563e285159175c97e71dd8c43ba71e9644f"), looks := false }, kinds := [], alts := [], laidByText := true, laidKinds := [.data], laidTests := true, laidLooks := .later }
def ReceiverCursorsUptoCardSaid : Prop := Claim7.holds Tryd.pinned (.plain (OpenSpec.upto receiverCursorsSpec)) receiverCursorsUptoCard

/-- THE SECOND FORM's CARD OF 'signpostlaw14.ReceiverNil'. -/
def receiverNilUptoCard : Claim7 := { stood := { row := receiverNilUptoRow, standIns := [], harness := (true, "9f1138924d784bfed17d71e72dd25563e285159175c97e71dd8c43ba71e9644f"), looks := false }, kinds := [], alts := [], laidByText := true, laidKinds := [.data], laidTests := true, laidLooks := .later }
def ReceiverNilUptoCardSaid : Prop := Claim7.holds Tryd.pinned (.plain (OpenSpec.upto receiverNilSpec)) receiverNilUptoCard

/-- THE SECOND FORM's CARD OF 'signpostlaw14.ReceiverOrder'. -/
def receiverOrderUptoCard : Claim7 := { stood := { row := receiverOrderUptoRow, standIns := [], harness := (true, "9f1138924d784bfed17d71e72dd25563e285159175c97e71dd8c43ba71e9644f"), looks := false }, kinds := [], alts := [], laidByText := true, laidKinds := [.data], laidTests := true, laidLooks := .later }
def ReceiverOrderUptoCardSaid : Prop := Claim7.holds Tryd.pinned (.plain (OpenSpec.upto receiverOrderSpec)) receiverOrderUptoCard

/-- THE SECOND FORM's CARD OF 'signpostlaw14.ReceiverDrops'. -/
def receiverDropsUptoCard : Claim7 := { stood := { row := receiverDropsUptoRow, standIns := [], harness := (true, "9f1138924d784bfed17d71e72dd25563e285159175c97e71dd8c43ba71e9644f"), looks := false }, kinds := [], alts := [], laidByText := true, laidKinds := [.data], laidTests := true, laidLooks := .later }
def ReceiverDropsUptoCardSaid : Prop := Claim7.holds Tryd.pinned (.plain (OpenSpec.upto receiverDropsSpec)) receiverDropsUptoCard

/-- THE SECOND FORM's CARD OF 'signpostlaw14.ReceiverOwn'. -/
def receiverOwnUptoCard : Claim7 := { stood := { row := receiverOwnUptoRow, standIns := [], harness := (true, "9f1138924d784bfed17d71e72dd25563e285159175c97e71dd8c43ba71e9644f"), looks := false }, kinds := [], alts := [], laidByText := true, laidKinds := [.data], laidTests := true, laidLooks := .later }
def ReceiverOwnUptoCardSaid : Prop := Claim7.holds Tryd.pinned (.plain (OpenSpec.upto receiverOwnSpec)) receiverOwnUptoCard
end Rows
end Go.Proofs.YtifcibmpeolmdaaDoor
