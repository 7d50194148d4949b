/- Proved: nothing of its own: what the texts of this seat import. No condition. -/
import Derived.Test.YtlcdaagehamjlaaRows
import Derived.Test.YtlcdaagehamjlaaG
import Derived.WalkKit
import Derived.Lib.Hide
import Derived.WalkSpells
import Derived.WalkLawsBesides
import Derived.Handy
namespace Go.Proofs.Ytlcdaagehamjlaa
open Go.RowKit

end Go.Proofs.Ytlcdaagehamjlaa
