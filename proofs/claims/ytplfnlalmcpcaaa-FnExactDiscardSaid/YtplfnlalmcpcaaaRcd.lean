/- Which records are valid: contracts of both sides. No statement is proved here. -/
import Derived.Test.YtplfnlalmcpcaaaRec
import Derived.Test.YtplfnlalmcpcaaaRbk
import Derived.Test.YtplfnlalmcpcaaaPgI
namespace Go.Proofs.Ytplfnlalmcpcaaa
open Go.RowKit
set_option linter.unusedVariables false
def recOk (q : Int) (ps : List Pt) : Bool := inB q 1 1000000000000 && (inB (ps.length : Int) 1 60 && pgOk ps)
end Go.Proofs.Ytplfnlalmcpcaaa
