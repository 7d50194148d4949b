/- Proved: nothing of its own: what the texts of this seat import. No condition. -/
import Derived.Test.YtcnaaoakcmdfkaaDoorRows
import Derived.Test.YtcnaaoakcmdfkaaDoorG
import Derived.WalkKit
import Derived.Lib.Hide
import Derived.WalkSpells
import Derived.WalkLawsBesides
import Derived.Handy
namespace Go.Proofs.YtcnaaoakcmdfkaaDoor
open Go.RowKit

end Go.Proofs.YtcnaaoakcmdfkaaDoor
