/- The contracts of the copies and of CutBox in the form that the law's walk uses; a region that draws where it makes its block. No statement is proved here. -/
import Derived.Test.YtaokifppaagalaaCutI
import Derived.Test.YtaokifppaagalaaCutS
import Derived.Test.YtaokifppaagalaaMrB
import Derived.Deep.DeepFit
namespace Go.Proofs.Ytaokifppaagalaa
open Go.RowKit
set_option linter.unusedVariables false
theorem sCut_is {B : Nat} {w : World} {v1 v2 v3 v4 : Value} {xs ms ys ns D M : List Int} {b : Bool} (hD : cutLo xs ms ys ns = D) (hM : cutHi xs ms ys ns = M) (hb : cutOk xs ms ys ns = b) (h1 : Ri B w v1 xs) (h2 : Ri B w v2 ms) (h3 : Ri B w v3 ys) (h4 : Ri B w v4 ns) (hB : B ≤ w.heap.size) :
    Calls Try.prog 51 #[.agg #[v1, v2], .agg #[v3, v4]] w (AnsAt D M (.bool b) w) := by subst hD hM hb; exact specCut_any h1 h2 h3 h4 hB
theorem pCut_is {B : Nat} {w : World} {v1 v2 v3 v4 : Value} {xs ms ys ns D M : List Int} {b : Bool} (hD : cutLo xs ms ys ns = D) (hM : cutHi xs ms ys ns = M) (hb : cutOk xs ms ys ns = b) (h1 : Ri B w v1 xs) (h2 : Ri B w v2 ms) (h3 : Ri B w v3 ys) (h4 : Ri B w v4 ns) (hB : B ≤ w.heap.size) :
    Calls Try.prog 52 #[.agg #[v1, v2], .agg #[v3, v4]] w (AnsAt D M (.bool b) w) := by subst hD hM hb; exact implCut_any h1 h2 h3 h4 hB
theorem cutLo_in {xs ms ys ns : List Int} (hx : ∀ x ∈ xs, InI x) (hy : ∀ y ∈ ys, InI y) : ∀ z ∈ cutLo xs ms ys ns, InI z := by
  unfold cutLo; split
  · exact cutL_in hx hy
  · intro x hx; simp at hx
theorem cutHi_in {xs ms ys ns : List Int} (hx : ∀ x ∈ ms, InI x) (hy : ∀ y ∈ ns, InI y) : ∀ z ∈ cutHi xs ms ys ns, InI z := by
  unfold cutHi; split
  · exact cutM_in hx hy
  · intro x hx; simp at hx
theorem cutLo_le {xs ms ys ns : List Int} (h : xs.length ≤ 1048576) : (cutLo xs ms ys ns).length ≤ 1048576 := by
  unfold cutLo cutL; split
  · rw [List.length_zipWith]; omega
  · simp
theorem cutHi_le {xs ms ys ns : List Int} (h : ms.length ≤ 1048576) : (cutHi xs ms ys ns).length ≤ 1048576 := by
  unfold cutHi cutM; split
  · rw [List.length_zipWith]; omega
  · simp
theorem toBox_oi {B : Nat} {w : World} {v1 v2 : Value} {xs ms : List Int} (h1 : Ri B w v1 xs) (h2 : Ri B w v2 ms) (hB : B ≤ w.heap.size) (hs : xs.length ≤ 1048576 ∧ ms.length ≤ 1048576) :
    Calls Try.prog 39 #[.agg #[v1, v2]] w fun e w' => ∃ A1 A2 : Option Addr, e = .returned (.agg #[.slice A1 xs.length xs.length, .slice A2 ms.length ms.length]) ∧
      OI w' w.heap.size (.slice A1 xs.length xs.length) xs ∧ OI w' w.heap.size (.slice A2 ms.length ms.length) ms ∧ Apart (.slice A1 xs.length xs.length) (.slice A2 ms.length ms.length) ∧ Below w.heap.size w w' :=
  (toBox_any h1 h2 hB hs).mono fun e w' ⟨he, r1, r2, _, g⟩ => ⟨_, _, he, OI.of_row r1 (by omega) (by unfold maxLen; omega), OI.of_row r2 (by omega) (by unfold maxLen; omega), fun g hg he => by simp [Value.ownBlock] at hg he; omega, g⟩
/-- The post of a region that ends as it should, and in no other way. -/
def NormQ (R : Act → World → Prop) : Exit → Act → World → Prop
  | .normal, a, w => R a w
  | _, _, _ => False
theorem wp_norm {P : Program} {c : Code} {Q : Exit → Act → World → Prop} {a : Act} {w : World} (R : Act → World → Prop) (h1 : c.wp P (NormQ R) a w) (h2 : ∀ a' W, R a' W → Q .normal a' W) : c.wp P Q a w :=
  Code.wp_mono (fun e a' W h => by cases e <;> first | exact h2 _ _ h | exact False.elim h) h1
/-- This block holds these two cells. -/
def Two (w : World) (g : Nat) (t : TypeId) (a b : Value) : Prop := w.heap[g]? = some (.cells #[a, b] t (0, 0))
theorem Two.lt {w : World} {g : Nat} {t : TypeId} {a b : Value} (h : Two w g t a b) : g < w.heap.size := by
  rcases Nat.lt_or_ge g w.heap.size with hlt | hge
  · exact hlt
  · unfold Two at h; rw [Array.getElem?_eq_none hge] at h; cases h
theorem Two.c0 {w : World} {g : Nat} {t : TypeId} {a b : Value} (h : Two w g t a b) : w.cell? ⟨g, 0, none⟩ = some a := by rw [cell_of_row _ _ _ _ _ _ h]; rfl
theorem Two.c1 {w : World} {g : Nat} {t : TypeId} {a b : Value} (h : Two w g t a b) : w.cell? ⟨g, 1, none⟩ = some b := by rw [cell_of_row _ _ _ _ _ _ h]; rfl
theorem Two.f {w : World} {g : Nat} {t : TypeId} {a b : Value} (h : Two w g t a b) (j : Nat) : w.frozen? ⟨g, j, none⟩ = false := frozen_of_row _ _ _ _ _ h
theorem Two.keep {w u : World} {g : Nat} {t : TypeId} {a b : Value} (h : Two w g t a b) (k : Below w.heap.size w u) : Two u g t a b := (k.block g h.lt).trans h
theorem Two.new (w : World) (t : TypeId) (a b : Value) : Two (w.alloc (.cells #[a, b] t)) w.heap.size t a b := heap_alloc_new w _
/-- Behind the region: the answer's two lists are new, and lie in the struct in block b6, which is new too. -/
def FinB (w0 W : World) (b6 : Nat) (t : TypeId) (A1 A2 : Option Addr) (c1 c2 : Nat) (xs ms : List Int) : Prop :=
  Two W b6 t (.slice A1 xs.length c1) (.slice A2 ms.length c2) ∧ OI W w0.heap.size (.slice A1 xs.length c1) xs ∧ OI W w0.heap.size (.slice A2 ms.length c2) ms ∧ Below w0.heap.size w0 W ∧ w0.heap.size ≤ b6
theorem finB {w0 u : World} {b6 lo : Nat} {t : TypeId} {a b : Value} {A1 A2 : Option Addr} {c1 c2 : Nat} {xs ms : List Int} (kb : Below w0.heap.size w0 u) (ry : Two u b6 t a b) (oa : OI u lo (.slice A1 xs.length c1) xs) (ob : OI u lo (.slice A2 ms.length c2) ms)
    (hlo : w0.heap.size ≤ lo) (h6 : w0.heap.size ≤ b6) (hd : b6 < lo ∨ (∀ g, (Value.slice A1 xs.length c1).ownBlock = some g ∨ (Value.slice A2 ms.length c2).ownBlock = some g → g < b6)) :
    FinB w0 ((u.setCell ⟨b6, 0, none⟩ (.slice A1 xs.length c1)).setCell ⟨b6, 1, none⟩ (.slice A2 ms.length c2)) b6 t A1 A2 c1 c2 xs ms := by
  have hh : ∀ k, k ≠ b6 → ((u.setCell ⟨b6, 0, none⟩ (.slice A1 xs.length c1)).setCell ⟨b6, 1, none⟩ (.slice A2 ms.length c2)).heap[k]? = u.heap[k]? := fun k hk => by
    rw [heap_setCell_other _ ⟨b6, 1, none⟩ k _ (fun e => hk e), heap_setCell_other _ ⟨b6, 0, none⟩ k _ (fun e => hk e)]
  refine ⟨heap_setCell_same _ _ _ _ _ _ (heap_setCell_same _ _ _ _ _ _ ry), (oa.same fun k hk => hh k fun e => ?_).lo hlo, (ob.same fun k hk => hh k fun e => ?_).lo hlo, (kb.setCell (p := ⟨b6, 0, none⟩) h6 _).setCell (p := ⟨b6, 1, none⟩) h6 _, h6⟩
  · subst e
    have h1 := oa.wi k hk
    rcases hd with hd | hd
    · omega
    · have := hd k (.inl hk); omega
  · subst e
    have h1 := ob.wi k hk
    rcases hd with hd | hd
    · omega
    · have := hd k (.inr hk); omega
theorem finC {w0 u : World} {lo : Nat} {t : TypeId} {A1 A2 : Option Addr} {c1 c2 : Nat} {xs ms : List Int} (kb : Below w0.heap.size w0 u) (oa : OI u lo (.slice A1 xs.length c1) xs) (ob : OI u lo (.slice A2 ms.length c2) ms) (hlo : w0.heap.size ≤ lo) :
    FinB w0 (u.alloc (.cells #[.slice A1 xs.length c1, .slice A2 ms.length c2] t)) u.heap.size t A1 A2 c1 c2 xs ms :=
  ⟨Two.new _ _ _ _, (oa.bel ((Below.refl _ _).alloc (Nat.le_refl _) _)).lo hlo, (ob.bel ((Below.refl _ _).alloc (Nat.le_refl _) _)).lo hlo, kb.alloc kb.size _, kb.size⟩
/-- What stands behind the region, whatever the order that was drawn. -/
def RF (w0 : World) (t : TypeId) (xs ms : List Int) (A : Option Addr → Option Addr → Option Addr → Option Addr → Option Addr → Option Addr → Nat → Nat → Nat → Act) (a : Act) (W : World) : Prop :=
  ∃ (T0 T1 U0 U1 Z0 Z1 : Option Addr) (d0 d1 b6 : Nat), a = A T0 T1 U0 U1 Z0 Z1 d0 d1 b6 ∧ FinB w0 W b6 t Z0 Z1 d0 d1 xs ms
theorem wp_drawn {P : Program} {c : Code} {Q : Exit → Act → World → Prop} {a : Act} {w : World} (w0 : World) (t : TypeId) (xs ms : List Int) (A : Option Addr → Option Addr → Option Addr → Option Addr → Option Addr → Option Addr → Nat → Nat → Nat → Act)
    (h1 : c.wp P (NormQ (RF w0 t xs ms A)) a w) (h2 : ∀ a' W, RF w0 t xs ms A a' W → Q .normal a' W) : c.wp P Q a w := wp_norm _ h1 h2
end Go.Proofs.Ytaokifppaagalaa
