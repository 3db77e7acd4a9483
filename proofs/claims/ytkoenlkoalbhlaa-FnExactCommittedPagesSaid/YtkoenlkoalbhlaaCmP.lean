/- All committed pages: their sizes. No statement is proved here. -/
import Derived.Test.YtkoenlkoalbhlaaCmS
namespace Go.Proofs.Ytkoenlkoalbhlaa
open Go.RowKit
set_option linter.unusedVariables false
theorem getD_le {ss : List ByteArray} {k : Nat} (h : ∀ x ∈ ss, x.size ≤ maxLen) : (ss.getD k ByteArray.empty).size ≤ maxLen := by
  rw [List.getD_eq_getElem?_getD]
  rcases Nat.lt_or_ge k ss.length with hk | hk
  · rw [List.getElem?_eq_getElem hk]; exact h _ (List.getElem_mem hk)
  · rw [List.getElem?_eq_none hk]; exact Nat.zero_le _
theorem getD2_le {ps : List Pt} {k : Nat} (h : ∀ p ∈ ps, p.2.size ≤ maxLen) : (ps.getD k (0, ByteArray.empty)).2.size ≤ maxLen := by
  rw [List.getD_eq_getElem?_getD]
  rcases Nat.lt_or_ge k ps.length with hk | hk
  · rw [List.getElem?_eq_getElem hk]; exact h _ (List.getElem_mem hk)
  · rw [List.getElem?_eq_none hk]; exact Nat.zero_le _
theorem rdI_le {ss : List ByteArray} {ps : List Pt} {k : Nat} (h1 : ∀ x ∈ ss, x.size ≤ maxLen) (h2 : ∀ p ∈ ps, p.2.size ≤ maxLen) : ∀ i, (rdI ss ps k i).size ≤ maxLen
  | 0 => getD_le h1
  | i + 1 => by
    rw [rdI]; split
    · exact getD2_le h2
    · exact rdI_le h1 h2 i
theorem cmS_le {ss : List ByteArray} {ps lg : List Pt} {k : Int} (h1 : ∀ x ∈ ss, x.size ≤ maxLen) (h2 : ∀ p ∈ ps, p.2.size ≤ maxLen) (h3 : ∀ p ∈ lg, p.2.size ≤ maxLen) : (cmS ss ps lg k).size ≤ maxLen := by
  unfold cmS; split
  · unfold pgX; split
    · exact getD2_le h3
    · exact Nat.zero_le _
  · exact rdI_le h1 h2 _
theorem cpD_ok {ss : List ByteArray} {ps lg dt : List Pt} {fz b l q t sq at_ : Int} {off : Bool} (h1 : ∀ x ∈ ss, x.size ≤ maxLen) (h2 : ∀ p ∈ ps, p.2.size ≤ maxLen) (h3 : ∀ p ∈ lg, p.2.size ≤ maxLen) :
    (∀ x ∈ cpD ss ps fz off b l q t sq at_ lg dt, x.size ≤ maxLen) ∧ (cpD ss ps fz off b l q t sq at_ lg dt).length ≤ 2097152 := by
  unfold cpD
  split
  · rename_i h
    refine ⟨fun x hx => ?_, ?_⟩
    · obtain ⟨i, _, rfl⟩ := List.mem_map.1 hx
      exact cmS_le h1 h2 h3
    · rw [cmL_len]
      have := sup_b (pgrOk_t h).1
      unfold cpN; omega
  · exact ⟨fun x hx => by simp at hx, by simp⟩
end Go.Proofs.Ytkoenlkoalbhlaa
