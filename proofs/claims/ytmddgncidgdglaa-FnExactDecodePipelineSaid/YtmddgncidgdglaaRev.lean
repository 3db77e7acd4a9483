/- The contracts of slices.Reverse at bytes, and of the two ReverseBytes. No statement is proved here. -/
import Derived.Test.YtmddgncidgdglaaStep
import Derived.BigRegion
import Derived.Laws.IdiomStrings
namespace Go.Proofs.Ytmddgncidgdglaa
open Go.RowKit
set_option linter.unusedVariables false
/-- The first n cells of block g hold the bytes c 0, c 1, ..; none is frozen. -/
def RowB (w : World) (g n : Nat) (c : Nat → UInt8) : Prop := ∀ j, j < n → w.cell? ⟨g, j, none⟩ = some (bv (c j)) ∧ w.frozen? ⟨g, j, none⟩ = false
def swapTo (n k : Nat) (c : Nat → UInt8) (j : Nat) : UInt8 := if j < k ∨ n ≤ j + k then c (n - 1 - j) else c j
theorem RowB.set {w : World} {g n : Nat} {c : Nat → UInt8} (h : RowB w g n c) (k : Nat) (hk : k < n) (x : UInt8) : RowB (w.setCell ⟨g, k, none⟩ (bv x)) g n (fun j => if j = k then x else c j) := by
  intro j hj
  obtain ⟨c1, f1⟩ := h j hj
  refine ⟨?_, by rw [World.frozen?_setCell]; exact f1⟩
  by_cases e : j = k
  · subst e
    rw [World.cell?_setCell_same _ _ _ c1]; simp
  · rw [World.cell?_setCell_other _ _ _ _ (by intro h; injection h; omega)]; simp [e]; exact c1
theorem RowB.congr {w : World} {g n : Nat} {c d : Nat → UInt8} (h : RowB w g n c) (hcd : ∀ j, j < n → c j = d j) : RowB w g n d := fun j hj => by rw [← hcd j hj]; exact h j hj
theorem RowB.drew {w : World} {g n : Nat} {c : Nat → UInt8} (h : RowB w g n c) : RowB w.drew g n c := h
theorem swap_step (n k b : Nat) (c : Nat → UInt8) (h : b + k + 1 = n) (hkb : k < b) (j : Nat) (hj : j < n) : (if j = b then swapTo n k c k else (if j = k then swapTo n k c b else swapTo n k c j)) = swapTo n (k + 1) c j := by
  unfold swapTo
  by_cases e1 : j = b
  · subst e1
    rw [if_pos rfl, if_neg (by omega), if_pos (by omega)]
    congr 1; omega
  · rw [if_neg e1]
    by_cases e2 : j = k
    · subst e2
      rw [if_pos rfl, if_neg (by omega), if_pos (by omega)]
      congr 1; omega
    · rw [if_neg e2]
      by_cases e3 : j < k ∨ n ≤ j + k
      · rw [if_pos e3, if_pos (by omega)]
      · rw [if_neg e3, if_neg (by omega)]
theorem swap_end (n k : Nat) (c : Nat → UInt8) (h : ¬ ((k : Int) < (n : Int) - 1 - k)) (j : Nat) (hj : j < n) : swapTo n k c j = c (n - 1 - j) := by
  unfold swapTo
  split
  · rfl
  · congr 1; omega
def revS (s : ByteArray) : ByteArray := ⟨s.data.toList.reverse.toArray⟩
theorem rev_conv (s : ByteArray) (w : World) (g cap : Nat) (h : RowB w g s.size (fun j => s.data.toList.getD (s.size - 1 - j) 0)) : (convert 62 9 (.slice (some ⟨g, 0, none⟩) s.size cap)).run Try.prog w = .ok (.string (revS s)) w := by
  have hl : s.data.toList.reverse.length = s.size := by simp
  have h1 := run_convert_bytes_back w 62 9 5 ⟨g, 0, none⟩ cap s.data.toList.reverse Try.underlying62 Try.underlying5 Try.underlying9 (fun j hj => by
    rw [hl] at hj
    rw [add_none, (h j hj).1]
    have e : s.data.toList.reverse[j]'(by rw [hl]; exact hj) = s.data.toList.getD (s.size - 1 - j) 0 := by
      rw [List.getElem_reverse]
      have h3 : s.data.toList.length = s.size := by simp
      have h4 : s.size - 1 - j < s.data.toList.length := by omega
      simp only [List.getD, List.getElem?_eq_getElem h4, Option.getD_some]
      congr 1
    show some (bv (s.data.toList.getD (s.size - 1 - j) 0)) = _
    rw [← e]; rfl)
  rw [hl] at h1
  exact h1
end Go.Proofs.Ytmddgncidgdglaa
