/- Contracts of the laws' functions that mark and hold dataspaces. No statement is proved here. -/
import Derived.Test.YtmghbgnalkkppaaCpy
namespace Go.Proofs.Ytmghbgnalkkppaa
open Go.RowKit
set_option linter.unusedVariables false
/-- Only blocks from lo to before hi may have changed; nothing else did. -/
def Mv (lo hi : Nat) (w w' : World) : Prop := w'.os = w.os ∧ w'.tape = w.tape ∧ w'.output = w.output ∧ w.heap.size ≤ w'.heap.size ∧ ∀ k, k < w.heap.size → (k < lo ∨ hi ≤ k) → w'.heap[k]? = w.heap[k]?
/-- The block of this slice, if it has one, lies from lo to before hi. -/
def Wi (lo hi : Nat) (v : Value) : Prop := ∀ g, v.ownBlock = some g → lo ≤ g ∧ g < hi
theorem Wi.mono {lo hi lo' hi' : Nat} {v : Value} (h : Wi lo hi v) (h1 : lo' ≤ lo) (h2 : hi ≤ hi') : Wi lo' hi' v := fun g hg => by have := h g hg; omega
theorem OI.wi {w : World} {lo : Nat} {v : Value} {xs : List Int} (h : OI w lo v xs) : Wi lo w.heap.size v := fun g hg => World.ownsRow.lt h g hg
theorem Mv.refl (lo hi : Nat) (w : World) : Mv lo hi w w := ⟨rfl, rfl, rfl, Nat.le_refl _, fun _ _ _ => rfl⟩
theorem Mv.trans {lo hi : Nat} {a b c : World} (h : Mv lo hi a b) (k : Mv lo hi b c) : Mv lo hi a c :=
  ⟨k.1.trans h.1, k.2.1.trans h.2.1, k.2.2.1.trans h.2.2.1, Nat.le_trans h.2.2.2.1 k.2.2.2.1, fun i hi2 ho => (k.2.2.2.2 i (Nat.lt_of_lt_of_le hi2 h.2.2.2.1) ho).trans (h.2.2.2.2 i hi2 ho)⟩
theorem Mv.of_below {lo hi : Nat} {a b : World} (h : Below a.heap.size a b) : Mv lo hi a b := ⟨h.os, h.tape, h.output, h.size, fun k hk _ => h.block k hk⟩
theorem Mv.grown {lo hi : Nat} {a b : World} {v : Value} (h : a.grownBy b v.ownBlock) (hw : Wi lo hi v) : Mv lo hi a b :=
  ⟨h.os, h.tape, h.output, h.size, fun k hk ho => h.block k hk (fun e => by have := hw k e.symm; omega)⟩
theorem Mv.below {lo hi B : Nat} {z a b : World} (h : Mv lo hi a b) (hz : Below B z a) (hB : B ≤ lo) (hBa : B ≤ a.heap.size) : Below B z b :=
  hz.trans ⟨h.1, h.2.1, h.2.2.1, h.2.2.2.1, fun k hk => h.2.2.2.2 k (by omega) (by omega)⟩
theorem Mv.cell {lo hi : Nat} {a b : World} (h : Mv lo hi a b) {p : Addr} {u : Value} (hc : a.cell? p = some u) (ho : p.block < lo ∨ hi ≤ p.block) : b.cell? p = some u :=
  (World.cell?_of_block (h.2.2.2.2 p.block (World.block_lt_of_cell? a p hc) ho)).trans hc
theorem OI.same {w w' : World} {lo : Nat} {v : Value} {xs : List Int} (h : OI w lo v xs) (hk : ∀ g, v.ownBlock = some g → w'.heap[g]? = w.heap[g]?) : OI w' lo v xs := by
  unfold OI at h ⊢
  refine ⟨h.1, ?_⟩
  rcases h.2 with hn | ⟨g, cap, cur, rfl, hb, hgg, rest⟩
  · exact .inl hn
  · exact .inr ⟨g, cap, cur, rfl, hb, (hk g rfl).trans hgg, rest⟩
theorem OI.mv {w w' : World} {lo l h2 : Nat} {v : Value} {xs : List Int} (h : OI w lo v xs) (hm : Mv l h2 w w') (hd : ∀ g, v.ownBlock = some g → g < l ∨ h2 ≤ g) : OI w' lo v xs :=
  h.same fun g hg => hm.2.2.2.2 g (h.wi g hg).2 (hd g hg)
theorem OI.bel {w w' : World} {lo : Nat} {v : Value} {xs : List Int} (h : OI w lo v xs) (hb : Below w.heap.size w w') : OI w' lo v xs :=
  h.same fun g hg => hb.block g (h.wi g hg).2
theorem OI.sl {w : World} {lo : Nat} {v : Value} {xs : List Int} (h : OI w lo v xs) : ∃ A cap, v = .slice A xs.length cap := by
  rcases h.slice with ⟨rfl, rfl⟩ | ⟨g, cap, rfl, _⟩
  · exact ⟨none, 0, rfl⟩
  · exact ⟨_, cap, rfl⟩
theorem OI.lo {w : World} {lo lo' : Nat} {v : Value} {xs : List Int} (h : OI w lo v xs) (hl : lo' ≤ lo) : OI w lo' v xs := by
  unfold OI at h ⊢
  refine ⟨h.1, ?_⟩
  rcases h.2 with hn | ⟨g, cap, cur, rfl, hb, rest⟩
  · exact .inl hn
  · exact .inr ⟨g, cap, cur, rfl, by omega, rest⟩
/-- Two slices that share no block. -/
def Apart (v u : Value) : Prop := ∀ g, v.ownBlock = some g → u.ownBlock ≠ some g
end Go.Proofs.Ytmghbgnalkkppaa
