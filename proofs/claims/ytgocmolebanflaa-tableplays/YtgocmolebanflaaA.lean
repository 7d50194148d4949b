/- Proved: nothing of its own: what the texts of this seat import. No condition. -/
import Derived.Test.YtgocmolebanflaaRows
import Derived.Test.YtgocmolebanflaaG
import Derived.WalkKit
import Derived.Lib.Hide
import Derived.WalkSpells
import Derived.WalkLawsBesides
import Derived.Handy
namespace Go.Proofs.Ytgocmolebanflaa
open Go.RowKit

end Go.Proofs.Ytgocmolebanflaa
