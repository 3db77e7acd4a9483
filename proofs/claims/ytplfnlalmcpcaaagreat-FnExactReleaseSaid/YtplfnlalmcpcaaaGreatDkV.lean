/- Contracts of the checks of a disk handed over by value. No statement is proved here. -/
import Derived.Test.YtplfnlalmcpcaaaGreatDk
namespace Go.Proofs.YtplfnlalmcpcaaaGreat
open Go.RowKit
set_option linter.unusedVariables false
end Go.Proofs.YtplfnlalmcpcaaaGreat
