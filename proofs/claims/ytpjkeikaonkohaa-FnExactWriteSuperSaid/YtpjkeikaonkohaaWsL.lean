/- A region that draws where it makes its block of four cells; what WriteSuper answers keeps its bounds. No statement is proved here. -/
import Derived.Test.YtpjkeikaonkohaaWsS
import Derived.Test.YtpjkeikaonkohaaDsk2
import Derived.Deep.DeepFit
namespace Go.Proofs.Ytpjkeikaonkohaa
open Go.RowKit
set_option linter.unusedVariables false
def NormQ (R : Act → World → Prop) : Exit → Act → World → Prop
  | .normal, a, w => R a w
  | _, _, _ => False
theorem wp_norm {P : Program} {c : Code} {Q : Exit → Act → World → Prop} {a : Act} {w : World} (R : Act → World → Prop) (h1 : c.wp P (NormQ R) a w) (h2 : ∀ a' W, R a' W → Q .normal a' W) : c.wp P Q a w :=
  Code.wp_mono (fun e a' W h => by cases e <;> first | exact h2 _ _ h | exact False.elim h) h1
/-- This block holds these four cells. -/
def Four (w : World) (g : Nat) (t : TypeId) (a b c d : Value) : Prop := w.heap[g]? = some (.cells #[a, b, c, d] t (0, 0))
theorem Four.lt {w : World} {g : Nat} {t : TypeId} {a b c d : Value} (h : Four w g t a b c d) : g < w.heap.size := by
  rcases Nat.lt_or_ge g w.heap.size with hlt | hge
  · exact hlt
  · unfold Four at h; rw [Array.getElem?_eq_none hge] at h; cases h
theorem Four.c0 {w : World} {g : Nat} {t : TypeId} {a b c d : Value} (h : Four w g t a b c d) : w.cell? ⟨g, 0, none⟩ = some a := by rw [cell_of_row _ _ _ _ _ _ h]; rfl
theorem Four.c1 {w : World} {g : Nat} {t : TypeId} {a b c d : Value} (h : Four w g t a b c d) : w.cell? ⟨g, 1, none⟩ = some b := by rw [cell_of_row _ _ _ _ _ _ h]; rfl
theorem Four.c2 {w : World} {g : Nat} {t : TypeId} {a b c d : Value} (h : Four w g t a b c d) : w.cell? ⟨g, 2, none⟩ = some c := by rw [cell_of_row _ _ _ _ _ _ h]; rfl
theorem Four.c3 {w : World} {g : Nat} {t : TypeId} {a b c d : Value} (h : Four w g t a b c d) : w.cell? ⟨g, 3, none⟩ = some d := by rw [cell_of_row _ _ _ _ _ _ h]; rfl
theorem Four.f {w : World} {g : Nat} {t : TypeId} {a b c d : Value} (h : Four w g t a b c d) (j : Nat) : w.frozen? ⟨g, j, none⟩ = false := frozen_of_row _ _ _ _ _ h
theorem Four.keep {w u : World} {g : Nat} {t : TypeId} {a b c d : Value} (h : Four w g t a b c d) (k : Below w.heap.size w u) : Four u g t a b c d := (k.block g h.lt).trans h
theorem Four.new (w : World) (t : TypeId) (a b c d : Value) : Four (w.alloc (.cells #[a, b, c, d] t)) w.heap.size t a b c d := heap_alloc_new w _
/-- Behind the region: the answer's two lists lie between lo and hi, and in the struct in block b6, which is new too and lies outside. -/
def FinD (w0 W : World) (b6 lo hi : Nat) (t : TypeId) (A1 A2 : Option Addr) (c1 c2 : Nat) (ss : List ByteArray) (ps : List Pt) (fz : Int) (off : Bool) : Prop :=
  Four W b6 t (.slice A1 ss.length c1) (.slice A2 ps.length c2) (.int .i64 fz) (.bool off) ∧ OT W lo (.slice A1 ss.length c1) ss ∧ OU W lo (.slice A2 ps.length c2) ps ∧ Apart (.slice A1 ss.length c1) (.slice A2 ps.length c2) ∧
    Below w0.heap.size w0 W ∧ (w0.heap.size ≤ b6 ∧ b6 < W.heap.size ∧ w0.heap.size ≤ lo ∧ hi ≤ W.heap.size ∧ (b6 < lo ∨ hi ≤ b6)) ∧ Wi lo hi (.slice A1 ss.length c1) ∧ Wi lo hi (.slice A2 ps.length c2)
theorem finB {w0 u : World} {b6 lo : Nat} {t : TypeId} {a b c d : Value} {A1 A2 : Option Addr} {c1 c2 : Nat} {ss : List ByteArray} {ps : List Pt} {fz : Int} {off : Bool} (kb : Below w0.heap.size w0 u) (ry : Four u b6 t a b c d) (oa : OT u lo (.slice A1 ss.length c1) ss) (ob : OU u lo (.slice A2 ps.length c2) ps)
    (hap : Apart (.slice A1 ss.length c1) (.slice A2 ps.length c2)) (hlo : w0.heap.size ≤ lo) (h6 : w0.heap.size ≤ b6) (hd : b6 < lo) :
    FinD w0 ((((u.setCell ⟨b6, 0, none⟩ (.slice A1 ss.length c1)).setCell ⟨b6, 1, none⟩ (.slice A2 ps.length c2)).setCell ⟨b6, 2, none⟩ (.int .i64 fz)).setCell ⟨b6, 3, none⟩ (.bool off)) b6 lo u.heap.size t A1 A2 c1 c2 ss ps fz off := by
  have S := store4 (a' := .slice A1 ss.length c1) (b' := .slice A2 ps.length c2) (c' := .int .i64 fz) (d' := .bool off) (B := w0.heap.size) ry h6
  have wa := own_wi oa
  have wb := own_wi ob
  refine ⟨S.1, own_same oa fun g hg => S.2.1 g fun e => ?_, own_same ob fun g hg => S.2.1 g fun e => ?_, hap, kb.trans S.2.2, ⟨h6, ?_, hlo, ?_, .inl hd⟩, wa, wb⟩
  · have := wa g hg; omega
  · have := wb g hg; omega
  · have := ry.lt; simpa using this
  · simp
theorem finC {w0 u : World} {lo : Nat} {t : TypeId} {A1 A2 : Option Addr} {c1 c2 : Nat} {ss : List ByteArray} {ps : List Pt} {fz : Int} {off : Bool} (kb : Below w0.heap.size w0 u) (oa : OT u lo (.slice A1 ss.length c1) ss) (ob : OU u lo (.slice A2 ps.length c2) ps) (hap : Apart (.slice A1 ss.length c1) (.slice A2 ps.length c2)) (hlo : w0.heap.size ≤ lo) :
    FinD w0 (u.alloc (.cells #[.slice A1 ss.length c1, .slice A2 ps.length c2, .int .i64 fz, .bool off] t)) u.heap.size lo u.heap.size t A1 A2 c1 c2 ss ps fz off :=
  ⟨Four.new _ _ _ _ _ _, own_bel oa ((Below.refl _ _).alloc (Nat.le_refl _) _), own_bel ob ((Below.refl _ _).alloc (Nat.le_refl _) _), hap, kb.alloc kb.size _, ⟨kb.size, by simp, hlo, by simp, .inr (Nat.le_refl _)⟩, own_wi oa, own_wi ob⟩
/-- What stands behind the region, whatever the order that was drawn. -/
def RF (w0 : World) (t : TypeId) (ss : List ByteArray) (ps : List Pt) (fz : Int) (off : Bool) (A : Option Addr → Option Addr → Option Addr → Option Addr → Nat → Nat → Nat → Act) (a : Act) (W : World) : Prop :=
  ∃ (T0 T1 Z0 Z1 : Option Addr) (d0 d1 b6 lo hi : Nat), a = A T0 T1 Z0 Z1 d0 d1 b6 ∧ FinD w0 W b6 lo hi t Z0 Z1 d0 d1 ss ps fz off
theorem wp_drawn {P : Program} {c : Code} {Q : Exit → Act → World → Prop} {a : Act} {w : World} (w0 : World) (t : TypeId) (ss : List ByteArray) (ps : List Pt) (fz : Int) (off : Bool) (A : Option Addr → Option Addr → Option Addr → Option Addr → Nat → Nat → Nat → Act)
    (h1 : c.wp P (NormQ (RF w0 t ss ps fz off A)) a w) (h2 : ∀ a' W, RF w0 t ss ps fz off A a' W → Q .normal a' W) : c.wp P Q a w := wp_norm _ h1 h2
def RG (w0 : World) (t : TypeId) (ss : List ByteArray) (ps : List Pt) (fz : Int) (off : Bool) (A : Option Addr → Option Addr → Nat → Nat → Nat → Act) (a : Act) (W : World) : Prop :=
  ∃ (Z0 Z1 : Option Addr) (d0 d1 b6 lo hi : Nat), a = A Z0 Z1 d0 d1 b6 ∧ FinD w0 W b6 lo hi t Z0 Z1 d0 d1 ss ps fz off
theorem wp_drawn2 {P : Program} {c : Code} {Q : Exit → Act → World → Prop} {a : Act} {w : World} (w0 : World) (t : TypeId) (ss : List ByteArray) (ps : List Pt) (fz : Int) (off : Bool) (A : Option Addr → Option Addr → Nat → Nat → Nat → Act)
    (h1 : c.wp P (NormQ (RG w0 t ss ps fz off A)) a w) (h2 : ∀ a' W, RG w0 t ss ps fz off A a' W → Q .normal a' W) : c.wp P Q a w := wp_norm _ h1 h2
theorem wb_ok {ss : List ByteArray} {ps : List Pt} (fz : Int) (off : Bool) {k : Int} {x : ByteArray} (hk2 : InI k) (hx : x.size ≤ maxLen) (h1 : ∀ x ∈ ss, x.size ≤ maxLen) (h2 : ∀ p ∈ ps, InI p.1 ∧ p.2.size ≤ maxLen) :
    (∀ y ∈ wbS ss ps fz off k x, y.size ≤ maxLen) ∧ (∀ p ∈ wbP ss ps fz off k x, InI p.1 ∧ p.2.size ≤ maxLen) ∧ (wbS ss ps fz off k x).length ≤ ss.length + 1 ∧ (wbP ss ps fz off k x).length ≤ ps.length + 1 := by
  unfold wbS wbP
  split
  · refine ⟨h1, ?_, by omega, ?_⟩
    · unfold wrP
      split
      · intro p hp
        rcases List.mem_append.1 hp with h | h
        · exact h2 p h
        · obtain rfl := List.mem_singleton.1 h
          exact ⟨hk2, hx⟩
      · exact h2
    · unfold wrP
      split
      · simp
      · omega
  · exact ⟨by simp, by simp, by simp, by simp⟩
theorem ws_ok {ss : List ByteArray} {ps : List Pt} (fz : Int) (off : Bool) (n0 n1 n2 n3 : Int) (h1 : ∀ x ∈ ss, x.size ≤ maxLen) (h2 : ∀ p ∈ ps, InI p.1 ∧ p.2.size ≤ maxLen) :
    (∀ y ∈ wsS ss ps fz off n0 n1 n2 n3, y.size ≤ maxLen) ∧ (∀ p ∈ wsP ss ps fz off n0 n1 n2 n3, InI p.1 ∧ p.2.size ≤ maxLen) ∧ (wsS ss ps fz off n0 n1 n2 n3).length ≤ ss.length + 1 ∧ (wsP ss ps fz off n0 n1 n2 n3).length ≤ ps.length + 1 := by
  cases hy : wsY ss ps fz n0 n1 n2 n3
  · obtain ⟨e1, e2, -⟩ := ws_no off hy
    rw [e1, e2]
    exact ⟨by simp, by simp, by simp, by simp⟩
  · obtain ⟨e1, e2, -⟩ := ws_yes off hy
    rw [e1, e2]
    have hs1 : 0 ≤ n3 ∧ n3 ≤ 1000000000000 := by
      have h := hy
      simp only [wsY, supOk, Bool.and_eq_true, inB_iff] at h
      exact h.2.1.2.2
    have hk2 : 0 ≤ n3.tmod 2 ∧ n3.tmod 2 < 2 := ⟨Int.tmod_nonneg _ hs1.1, Int.tmod_lt_of_pos _ (by omega)⟩
    exact wb_ok fz off (by unfold wsK InI; omega) (by rw [supB, ByteArray.size_append, supP_size]; decide) h1 h2
end Go.Proofs.Ytpjkeikaonkohaa
