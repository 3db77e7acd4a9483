/- Pages read through a pager: the model's functions. No statement is proved here. -/
import Derived.Test.YtplfnlalmcpcaaaPgV
namespace Go.Proofs.Ytplfnlalmcpcaaa
open Go.RowKit
set_option linter.unusedVariables false
theorem pgrOk_t {ss : List ByteArray} {ps lg dt : List Pt} {fz b l q t sq at_ : Int} {off : Bool} (h : pgrOk ss ps fz off b l q t sq at_ lg dt = true) : supOk b l q t = true ∧ b = (ss.length : Int) := by
  simp only [pgrOk, Bool.and_eq_true, decide_eq_true_eq] at h
  exact h.1.2.2
/-- What the committed pages hold at k, and what the transaction sees. -/
def cmS (ss : List ByteArray) (ps lg : List Pt) (k : Int) : ByteArray := if pgY lg k then pgX lg k else rdB ss ps k.toNat
def gtS (ss : List ByteArray) (ps lg dt : List Pt) (k : Int) : ByteArray := if pgY dt k then pgX dt k else cmS ss ps lg k
def gpC (ss : List ByteArray) (ps : List Pt) (fz : Int) (off : Bool) (b l q t sq at_ : Int) (lg dt : List Pt) (k : Int) : Int := if pgrOk ss ps fz off b l q t sq at_ lg dt then (if inB k (2 + l) (b - 1) then 0 else 2) else 1
def gpS (ss : List ByteArray) (ps : List Pt) (fz : Int) (off : Bool) (b l q t sq at_ : Int) (lg dt : List Pt) (k : Int) : ByteArray := if pgrOk ss ps fz off b l q t sq at_ lg dt then (if inB k (2 + l) (b - 1) then gtS ss ps lg dt k else ⟨#[]⟩) else ⟨#[]⟩
end Go.Proofs.Ytplfnlalmcpcaaa
