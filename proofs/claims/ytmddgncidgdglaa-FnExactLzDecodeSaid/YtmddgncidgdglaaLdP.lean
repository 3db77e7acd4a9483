/- What the reversed compressor answers: its steps, in plain words. No statement is proved here. -/
import Derived.Test.YtmddgncidgdglaaDcP2
import Derived.Test.YtmddgncidgdglaaRnS
namespace Go.Proofs.Ytmddgncidgdglaa
open Go.RowKit
set_option linter.unusedVariables false
theorem ldL_nil (f : Nat) (out : List UInt8) : ldL f [] out = some out := by cases f <;> rfl
theorem ldL_lit_no {f : Nat} {x : UInt8} {l out : List UInt8} (h : x.toNat < 128) (h2 : l.length < x.toNat + 1 ∨ 1100 < out.length + (x.toNat + 1)) : ldL (f + 1) (x :: l) out = none := by rw [ldL, if_pos h, if_pos h2]
theorem ldL_lit {f : Nat} {x : UInt8} {l out : List UInt8} (h : x.toNat < 128) (h2 : ¬ (l.length < x.toNat + 1 ∨ 1100 < out.length + (x.toNat + 1))) : ldL (f + 1) (x :: l) out = ldL f (l.drop (x.toNat + 1)) (out ++ l.take (x.toNat + 1)) := by rw [ldL, if_pos h, if_neg h2]
theorem ldL_short {f : Nat} {x : UInt8} {l out : List UInt8} (h : ¬ x.toNat < 128) (h2 : l.length < 2) : ldL (f + 1) (x :: l) out = none := by rw [ldL, if_neg h, if_pos h2]
theorem ldL_no {f : Nat} {x y z : UInt8} {l out : List UInt8} (h : ¬ x.toNat < 128) (h2 : y.toNat + 256 * z.toNat < 1 ∨ out.length < y.toNat + 256 * z.toNat ∨ 1100 < out.length + (x.toNat - 125)) : ldL (f + 1) (x :: y :: z :: l) out = none := by
  rw [ldL, if_neg h, if_neg (by simp)]
  exact if_pos h2
theorem ldL_match {f : Nat} {x y z : UInt8} {l out : List UInt8} (h : ¬ x.toNat < 128) (h2 : ¬ (y.toNat + 256 * z.toNat < 1 ∨ out.length < y.toNat + 256 * z.toNat ∨ 1100 < out.length + (x.toNat - 125))) : ldL (f + 1) (x :: y :: z :: l) out = ldL f l (cpN (y.toNat + 256 * z.toNat) (x.toNat - 125) out) := by
  rw [ldL, if_neg h, if_neg (by simp)]
  exact if_neg h2
/-- The list in whose place n more bytes have been copied. -/
theorem cpN_step (d n : Nat) (out : List UInt8) : cpN d (n + 1) out = cpN d n (out ++ [out.getD (out.length - d) 0]) := rfl
theorem ob_cell {w : World} {B g n cap : Nat} {l : List UInt8} (h : OwnB w B (.slice (some ⟨g, 0, none⟩) n cap) l) (j : Nat) (hj : j < l.length) : w.cell? ⟨g, j, none⟩ = some (bv (l.getD j 0)) := by
  have := World.ownsRow.cells (g := g) h rfl j (bv l[j]) (by simp [hj])
  rw [List.getD_eq_getElem?_getD, List.getElem?_eq_getElem hj]
  simpa [add_none] using this
theorem ob_some {w : World} {B : Nat} {v : Value} {l : List UInt8} (h : OwnB w B v l) (h0 : 0 < l.length) : ∃ g cap, v = .slice (some ⟨g, 0, none⟩) l.length cap ∧ B ≤ g ∧ l.length ≤ cap ∧ cap ≤ maxLen := by
  rcases h.2 with ⟨rfl, hn⟩ | ⟨g, cap, cur, rfl, hb, hg, hn, hm, _⟩
  · omega
  · exact ⟨g, cap, rfl, hb, hn, hm⟩
end Go.Proofs.Ytmddgncidgdglaa
