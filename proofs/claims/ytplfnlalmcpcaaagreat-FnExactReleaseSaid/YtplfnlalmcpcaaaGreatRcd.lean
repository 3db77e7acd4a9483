/- Which records are valid: contracts of both sides. No statement is proved here. -/
import Derived.Test.YtplfnlalmcpcaaaGreatRec
import Derived.Test.YtplfnlalmcpcaaaGreatRbk
import Derived.Test.YtplfnlalmcpcaaaGreatPgI
namespace Go.Proofs.YtplfnlalmcpcaaaGreat
open Go.RowKit
set_option linter.unusedVariables false
def recOk (q : Int) (ps : List Pt) : Bool := inB q 1 1000000000000 && (inB (ps.length : Int) 1 60 && pgOk ps)
end Go.Proofs.YtplfnlalmcpcaaaGreat
