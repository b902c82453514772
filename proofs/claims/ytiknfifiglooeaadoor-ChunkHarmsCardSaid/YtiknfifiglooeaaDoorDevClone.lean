/- strings.Clone: the same bytes; nothing that was there turns. -/
import Derived.Test.YtiknfifiglooeaaDoorBase1
import Derived.WalkKit
import Derived.Lib.Walk
import Derived.Lib.BufferWrite
import Derived.Lib.UnsafeStr
import Derived.Laws.MakeOwn
namespace Go.Proofs.YtiknfifiglooeaaDoor
open Go.RowKit
set_option linter.unusedVariables false
set_option maxRecDepth 100000

end Go.Proofs.YtiknfifiglooeaaDoor
