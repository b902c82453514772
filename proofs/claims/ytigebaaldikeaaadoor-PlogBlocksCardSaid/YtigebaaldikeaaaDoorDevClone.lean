/- strings.Clone: the same bytes; nothing that was there turns. -/
import Derived.Test.YtigebaaldikeaaaDoorBase1
import Derived.WalkKit
import Derived.Lib.Walk
import Derived.Lib.BufferWrite
import Derived.Lib.UnsafeStr
import Derived.Laws.MakeOwn
namespace Go.Proofs.YtigebaaldikeaaaDoor
open Go.RowKit
set_option linter.unusedVariables false
set_option maxRecDepth 100000

end Go.Proofs.YtigebaaldikeaaaDoor
