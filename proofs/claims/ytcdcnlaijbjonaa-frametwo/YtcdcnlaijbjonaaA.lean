/- Proved: nothing of its own: what the texts of this seat import. No condition. -/
import Derived.Test.YtcdcnlaijbjonaaRows
import Derived.Test.YtcdcnlaijbjonaaG
import Derived.WalkKit
import Derived.Lib.Hide
import Derived.WalkSpells
import Derived.WalkLawsBesides
import Derived.Handy
namespace Go.Proofs.Ytcdcnlaijbjonaa
open Go.RowKit

end Go.Proofs.Ytcdcnlaijbjonaa
