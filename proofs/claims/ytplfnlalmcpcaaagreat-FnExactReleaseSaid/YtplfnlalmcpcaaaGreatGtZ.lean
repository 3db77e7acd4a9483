/- Pages that a pager reads have 64 bytes. No statement is proved here. -/
import Derived.Test.YtplfnlalmcpcaaaGreatGpS
namespace Go.Proofs.YtplfnlalmcpcaaaGreat
open Go.RowKit
set_option linter.unusedVariables false
theorem pgX_64 {ps : List Pt} {x : Int} (h : pgOk ps = true) (hy : pgY ps x = true) : (pgX ps x).size = 64 := by
  rcases pg_cases ps x with ⟨k, hk, _, hx, _⟩ | ⟨_, _, hn⟩
  · rw [hx]
    have h2 := allTo_at (pgOk_iff.1 h).2 hk
    simp only [pgAt, Bool.and_eq_true, decide_eq_true_eq] at h2
    rw [← pgS_at ps k hk]; exact h2.2.1
  · rw [hy] at hn; cases hn
theorem rdI_64 {ss : List ByteArray} {ps : List Pt} {fz : Int} {k : Nat} (h : dskOk ss ps fz = true) (hk : k < ss.length) : ∀ i, i ≤ ps.length → (rdI ss ps k i).size = 64
  | 0, _ => by
    have h2 := allTo_at (dskOk_iff.1 h).2.2.2.2.2.1 hk
    simpa [rdI, bkAt] using h2
  | i + 1, hi => by
    have h2 := allTo_at (dskOk_iff.1 h).2.2.2.2.2.2 (show i < ps.length by omega)
    unfold rdI
    split
    · simp only [pdAt, Bool.and_eq_true, decide_eq_true_eq] at h2
      exact h2.2
    · exact rdI_64 h hk i (by omega)
theorem gtS_64 {ss : List ByteArray} {ps lg dt : List Pt} {fz b l q t sq at_ : Int} {off : Bool} {k : Int} (h : pgrOk ss ps fz off b l q t sq at_ lg dt = true) (h0 : 0 ≤ k) (hk : k < (ss.length : Int)) : (gtS ss ps lg dt k).size = 64 := by
  simp only [pgrOk, Bool.and_eq_true] at h
  unfold gtS
  split
  · rename_i hy; exact pgX_64 h.2.2.1.2 hy
  · unfold cmS
    split
    · rename_i hy; exact pgX_64 h.2.2.1.1 hy
    · exact rdI_64 h.1.1 (by omega) _ (Nat.le_refl _)
/-- The allocation page. -/
def arS (ss : List ByteArray) (ps : List Pt) (l : Int) (lg dt : List Pt) : ByteArray := gtS ss ps lg dt (2 + l)
theorem pgrOk_b {ss : List ByteArray} {ps lg dt : List Pt} {fz b l q t sq at_ : Int} {off : Bool} (h : pgrOk ss ps fz off b l q t sq at_ lg dt = true) : 8 ≤ l ∧ l ≤ 64 ∧ l + 4 ≤ b ∧ b ≤ 256 ∧ b = (ss.length : Int) := by
  have h2 := pgrOk_t h
  have h3 := h2.1
  simp only [supOk, Bool.and_eq_true, inB_iff, decide_eq_true_eq] at h3
  exact ⟨by omega, by omega, by omega, by omega, h2.2⟩
theorem arS_64 {ss : List ByteArray} {ps lg dt : List Pt} {fz b l q t sq at_ : Int} {off : Bool} (h : pgrOk ss ps fz off b l q t sq at_ lg dt = true) : (arS ss ps l lg dt).size = 64 := by
  have := pgrOk_b h
  exact gtS_64 h (by omega) (by omega)
end Go.Proofs.YtplfnlalmcpcaaaGreat
