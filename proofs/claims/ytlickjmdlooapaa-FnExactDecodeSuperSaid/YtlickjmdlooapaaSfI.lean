/- The contract of the program's SetFuse. No statement is proved here. -/
import Derived.Test.YtlickjmdlooapaaDvO
import Derived.Test.YtlickjmdlooapaaDkF
namespace Go.Proofs.Ytlickjmdlooapaa
open Go.RowKit
set_option linter.unusedVariables false
theorem Drv.neSD {w : World} {lo D S : Nat} {v2 : Value} {ss : List ByteArray} {ps : List Pt} {fz : Int} {off : Bool} (h : Drv w lo D S v2 ss ps fz off) : S ≠ D := by
  rintro rfl
  obtain ⟨C, hC, -⟩ := h.sec
  have hb := h.box
  unfold VB at hb
  rw [hC] at hb
  cases hb
theorem Drv.neD {w : World} {lo D S : Nat} {v2 : Value} {ss : List ByteArray} {ps : List Pt} {fz : Int} {off : Bool} (h : Drv w lo D S v2 ss ps fz off) (q : Nat) (hq : v2.ownBlock = some q) : q ≠ D := by
  rintro rfl
  have hb := h.box
  rcases h.pend.2 with ⟨e1, _⟩ | ⟨g, cap, cur, rfl, _, hg, _⟩
  · rw [e1] at hq; simp [Value.ownBlock] at hq
  · simp only [Value.ownBlock, Option.some.injEq] at hq
    subst hq
    unfold VB at hb
    rw [hg] at hb
    cases hb
theorem Drv.neS {w : World} {lo D S : Nat} {v2 : Value} {ss : List ByteArray} {ps : List Pt} {fz : Int} {off : Bool} (h : Drv w lo D S v2 ss ps fz off) (q : Nat) (hq : v2.ownBlock = some q) : q ≠ S := by
  rintro rfl
  obtain ⟨C, hC, -⟩ := h.sec
  rcases h.pend.2 with ⟨e1, _⟩ | ⟨g, cap, cur, rfl, _, hg, _⟩
  · rw [e1] at hq; simp [Value.ownBlock] at hq
  · simp only [Value.ownBlock, Option.some.injEq] at hq
    subst hq
    rw [hg] at hC
    cases hC
/-- A store into the drive's own block. -/
theorem Drv.fuse {w : World} {lo D S : Nat} {v2 : Value} {ss : List ByteArray} {ps : List Pt} {fz : Int} {off : Bool} (h : Drv w lo D S v2 ss ps fz off) (f : Int) : Drv (w.setCell ⟨D, 2, none⟩ (.int .i64 f)) lo D S v2 ss ps f off :=
  ⟨heap_setCell_same _ _ _ _ _ _ h.box, h.sec.same (heap_setCell_other _ ⟨D, 2, none⟩ _ _ h.neSD), own_same h.pend fun q hq => heap_setCell_other _ ⟨D, 2, none⟩ _ _ (h.neD q hq), h.loD, h.loS, h.hn⟩
theorem Drv.power {w : World} {lo D S : Nat} {v2 : Value} {ss : List ByteArray} {ps : List Pt} {fz : Int} {off : Bool} (h : Drv w lo D S v2 ss ps fz off) (o : Bool) : Drv (w.setCell ⟨D, 3, none⟩ (.bool o)) lo D S v2 ss ps fz o :=
  ⟨heap_setCell_same _ _ _ _ _ _ h.box, h.sec.same (heap_setCell_other _ ⟨D, 3, none⟩ _ _ h.neSD), own_same h.pend fun q hq => heap_setCell_other _ ⟨D, 3, none⟩ _ _ (h.neD q hq), h.loD, h.loS, h.hn⟩
theorem Drv.ltD {w : World} {lo D S : Nat} {v2 : Value} {ss : List ByteArray} {ps : List Pt} {fz : Int} {off : Bool} (h : Drv w lo D S v2 ss ps fz off) : D < w.heap.size := h.box.lt
/-- Two boxes: the argument's and the answer's. -/
theorem boxes2 (w : World) (a b : Array Value) (s t : TypeId) : ((w.alloc (.cells a s)).alloc (.cells b t)).heap[w.heap.size]? = some (.cells a s (0, 0)) ∧ ((w.alloc (.cells a s)).alloc (.cells b t)).heap[w.heap.size + 1]? = some (.cells b t (0, 0)) ∧ ((w.alloc (.cells a s)).alloc (.cells b t)).heap.size = w.heap.size + 2 ∧ Below w.heap.size w ((w.alloc (.cells a s)).alloc (.cells b t)) :=
  ⟨heap_alloc2_old w _ _, heap_alloc2_new w _ _, by simp, ((Below.refl _ w).alloc (Nat.le_refl _) _).alloc (by simp) _⟩
end Go.Proofs.Ytlickjmdlooapaa
