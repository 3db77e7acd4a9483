/- Contracts of the checks of a disk handed over by value. No statement is proved here. -/
import Derived.Test.YtkoenlkoalbhlaaDk
namespace Go.Proofs.Ytkoenlkoalbhlaa
open Go.RowKit
set_option linter.unusedVariables false
end Go.Proofs.Ytkoenlkoalbhlaa
