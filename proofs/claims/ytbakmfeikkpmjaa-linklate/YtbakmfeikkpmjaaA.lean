/- Proved: nothing of its own: what the texts of this seat import. No condition. -/
import Derived.Test.YtbakmfeikkpmjaaRows
import Derived.Test.YtbakmfeikkpmjaaG
import Derived.WalkKit
import Derived.Lib.Hide
import Derived.WalkSpells
import Derived.WalkLawsBesides
import Derived.Handy
namespace Go.Proofs.Ytbakmfeikkpmjaa
open Go.RowKit

end Go.Proofs.Ytbakmfeikkpmjaa
