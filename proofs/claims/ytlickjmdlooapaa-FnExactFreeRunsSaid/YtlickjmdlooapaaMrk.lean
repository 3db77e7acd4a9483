/- Lists of one's own, marked and held; contracts of the laws' functions that mark and hold lists, and of those that copy a list by append. No statement is proved here. -/
import Derived.Test.YtlickjmdlooapaaPre
import Derived.Laws.AppendOwn
import Derived.Laws.OwnMore
namespace Go.Proofs.Ytlickjmdlooapaa
open Go.RowKit
set_option linter.unusedVariables false
/-- A slice of one's own, in a block from lo on, that holds these numbers. -/
def OI (w : World) (lo : Nat) (v : Value) (xs : List Int) : Prop := w.ownsRow lo 2 1 v xs.length (xs.map (Value.int .i64))
theorem OI.slice {w : World} {lo : Nat} {v : Value} {xs : List Int} (h : OI w lo v xs) : (v = .slice none 0 0 ∧ xs = []) ∨ ∃ g cap, v = .slice (some ⟨g, 0, none⟩) xs.length cap ∧ lo ≤ g ∧ g < w.heap.size ∧ xs.length ≤ cap ∧ cap ≤ maxLen := by
  have hl := World.ownsRow.lt h
  rcases h.2 with ⟨rfl, h0⟩ | ⟨g, cap, cur, rfl, hb, hg, hn, hm, _⟩
  · exact .inl ⟨rfl, List.eq_nil_of_length_eq_zero h0⟩
  · exact .inr ⟨g, cap, rfl, hb, (hl g rfl).2, hn, hm⟩
theorem OI.cell {w : World} {lo : Nat} {g cap : Nat} {xs : List Int} (h : OI w lo (.slice (some ⟨g, 0, none⟩) xs.length cap) xs) (j : Nat) (hj : j < xs.length) : w.cell? ⟨g, j, none⟩ = some (.int .i64 xs[j]) := by
  have := World.ownsRow.cells (g := g) h rfl j (.int .i64 xs[j]) (by simp [hj])
  rw [add_at, Nat.zero_add] at this
  exact this
theorem OI.ri {w : World} {lo : Nat} {v : Value} {xs : List Int} (h : OI w lo v xs) (hi : ∀ x ∈ xs, InI x) : Ri w.heap.size w v xs := by
  rcases h.slice with ⟨rfl, rfl⟩ | ⟨g, cap, rfl, hlo, hg, hn, hm⟩
  · exact Ri.nil _ _
  · exact ⟨_, cap, rfl, hn, hm, fun i hi2 => ⟨g, 0, rfl, hg, by rw [Nat.zero_add]; exact h.cell i hi2, hi _ (List.getElem_mem hi2)⟩⟩
theorem OI.of_row {w : World} {lo b : Nat} {xs : List Int} (h : Row w b xs) (hlo : lo ≤ b) (hl : xs.length ≤ maxLen) : OI w lo (.slice (some ⟨b, 0, none⟩) xs.length xs.length) xs := by
  refine ⟨by simp, .inr ⟨b, xs.length, cellsI xs, rfl, hlo, h, Nat.le_refl _, hl, by rw [cellsI_size, Nat.mul_one], ?_⟩⟩
  rw [Nat.mul_one]
  simp only [cellsI]
  rw [List.take_of_length_le (by simp)]
theorem OI.set {w : World} {lo g cap : Nat} {xs : List Int} {n : Nat} (h : OI w lo (.slice (some ⟨g, 0, none⟩) n cap) xs) (j : Nat) (x : Int) (hj : j < xs.length) :
    OI (w.setCell ⟨g, j, none⟩ (.int .i64 x)) lo (.slice (some ⟨g, 0, none⟩) n cap) (xs.set j x) := by
  unfold OI at h ⊢
  rcases h.2 with ⟨h0, _⟩ | ⟨g', cap', cur, he, hb, hg, hnc, hm, hcs, htake⟩
  · cases h0
  · cases he
    refine ⟨by simp, .inr ⟨g, cap, cur.setIfInBounds j (.int .i64 x), by rw [List.length_set], hb, heap_setCell_same _ _ _ _ _ _ hg, by simpa using hnc, hm, by simpa using hcs, ?_⟩⟩
    rw [List.length_set, Array.toList_setIfInBounds, List.take_set, htake, List.map_set]
theorem grown_refl (w : World) (row : Option Nat) : w.grownBy w row := ⟨rfl, rfl, rfl, Nat.le_refl _, fun _ _ _ => rfl⟩
theorem grown_set (w : World) (g j : Nat) (u : Value) : w.grownBy (w.setCell ⟨g, j, none⟩ u) (some g) :=
  ⟨rfl, rfl, rfl, by simp [World.setCell], fun k _ hne => heap_setCell_other w ⟨g, j, none⟩ k u (fun e => hne (by rw [e]))⟩
theorem grown_trans {a b c : World} {row : Option Nat} (h : a.grownBy b row) (k : b.grownBy c row) : a.grownBy c row :=
  ⟨k.os.trans h.os, k.tape.trans h.tape, k.output.trans h.output, Nat.le_trans h.size k.size, fun i hi hne => (k.block i (Nat.lt_of_lt_of_le hi h.size) hne).trans (h.block i hi hne)⟩
/-- k, k + 1, .. -/
def marks (k n : Nat) : List Int := (List.range n).map fun i => ((k + i : Nat) : Int)
theorem marks_length (k n : Nat) : (marks k n).length = n := by simp [marks]
theorem marks_at (k n i : Nat) (h : i < (marks k n).length) : (marks k n)[i] = ((k + i : Nat) : Int) := by simp [marks]
def mkd (k : Nat) (xs : List Int) (j : Nat) : List Int := marks k j ++ xs.drop j
theorem mkd_length (k : Nat) (xs : List Int) (j : Nat) (h : j ≤ xs.length) : (mkd k xs j).length = xs.length := by
  unfold mkd; rw [List.length_append, marks_length, List.length_drop]; omega
theorem mkd_step (k : Nat) (xs : List Int) (j : Nat) (h : j < xs.length) : (mkd k xs j).set j ((k + j : Nat) : Int) = mkd k xs (j + 1) := by
  unfold mkd
  rw [List.set_append, if_neg (by rw [marks_length]; omega), marks_length, Nat.sub_self]
  rw [List.drop_eq_getElem_cons h, List.set_cons_zero]
  simp [marks, List.range_succ]
theorem mkd_end (k : Nat) (xs : List Int) : mkd k xs xs.length = marks k xs.length := by
  unfold mkd; simp
end Go.Proofs.Ytlickjmdlooapaa
