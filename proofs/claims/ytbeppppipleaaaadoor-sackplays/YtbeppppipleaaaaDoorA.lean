/- Proved: nothing of its own: what the texts of this seat import. No condition. -/
import Derived.Test.YtbeppppipleaaaaDoorRows
import Derived.Test.YtbeppppipleaaaaDoorG
import Derived.WalkKit
import Derived.Lib.Hide
import Derived.WalkSpells
import Derived.WalkLawsBesides
import Derived.Handy
namespace Go.Proofs.YtbeppppipleaaaaDoor
open Go.RowKit

end Go.Proofs.YtbeppppipleaaaaDoor
