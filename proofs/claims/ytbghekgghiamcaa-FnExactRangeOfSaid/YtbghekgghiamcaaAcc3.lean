/- A selection of which three lists grow by append. No statement is proved here. -/
import Derived.Test.YtbghekgghiamcaaAcc
import Derived.Test.YtbghekgghiamcaaPts
namespace Go.Proofs.Ytbghekgghiamcaa
open Go.RowKit
set_option linter.unusedVariables false
/-- Three lists under way: block g holds the selection, the rows of its lists 1 to 3 lie behind g. -/
def Acc3 (W : World) (g : Nat) (m : Int) (v0 v1 v2 v3 : Value) (x1 x2 x3 : List Int) : Prop :=
  W.heap[g]? = some (.cells #[.int .i64 m, v0, v1, v2, v3, .slice none 0 0] 25 (0, 0)) ∧ OI W (g + 1) v1 x1 ∧ OI W (g + 1) v2 x2 ∧ OI W (g + 1) v3 x3 ∧ Apart v1 v2 ∧ Apart v1 v3 ∧ Apart v2 v3
theorem Apart.symm {v u : Value} (h : Apart v u) : Apart u v := fun k hk he => h k he hk
theorem Acc3.start (w : World) (m : Int) (v0 : Value) : Acc3 (w.alloc (.cells #[.int .i64 m, v0, .slice none 0 0, .slice none 0 0, .slice none 0 0, .slice none 0 0] 25)) w.heap.size m v0 (.slice none 0 0) (.slice none 0 0) (.slice none 0 0) [] [] [] :=
  ⟨heap_alloc_new w _, oi_none _ _, oi_none _ _, oi_none _ _, fun g hg => by simp [Value.ownBlock] at hg, fun g hg => by simp [Value.ownBlock] at hg, fun g hg => by simp [Value.ownBlock] at hg⟩
theorem Acc3.lt {W : World} {g : Nat} {m : Int} {v0 v1 v2 v3 : Value} {x1 x2 x3 : List Int} (h : Acc3 W g m v0 v1 v2 v3 x1 x2 x3) : g < W.heap.size := by
  rcases Nat.lt_or_ge g W.heap.size with hl | hl
  · exact hl
  · have := h.1; rw [Array.getElem?_eq_none hl] at this; cases this
theorem Acc3.c0 {W : World} {g : Nat} {m : Int} {v0 v1 v2 v3 : Value} {x1 x2 x3 : List Int} (h : Acc3 W g m v0 v1 v2 v3 x1 x2 x3) : W.cell? ⟨g, 2, none⟩ = some v1 := by rw [cell_of_row _ _ _ _ _ _ h.1]; rfl
theorem Acc3.c1 {W : World} {g : Nat} {m : Int} {v0 v1 v2 v3 : Value} {x1 x2 x3 : List Int} (h : Acc3 W g m v0 v1 v2 v3 x1 x2 x3) : W.cell? ⟨g, 3, none⟩ = some v2 := by rw [cell_of_row _ _ _ _ _ _ h.1]; rfl
theorem Acc3.c2 {W : World} {g : Nat} {m : Int} {v0 v1 v2 v3 : Value} {x1 x2 x3 : List Int} (h : Acc3 W g m v0 v1 v2 v3 x1 x2 x3) : W.cell? ⟨g, 4, none⟩ = some v3 := by rw [cell_of_row _ _ _ _ _ _ h.1]; rfl
theorem Acc3.keep {W W' : World} {g : Nat} {m : Int} {v0 v1 v2 v3 : Value} {x1 x2 x3 : List Int} (h : Acc3 W g m v0 v1 v2 v3 x1 x2 x3) (hb : Below W.heap.size W W') : Acc3 W' g m v0 v1 v2 v3 x1 x2 x3 :=
  ⟨(hb.block _ h.lt).trans h.1, h.2.1.bel hb, h.2.2.1.bel hb, h.2.2.2.1.bel hb, h.2.2.2.2⟩
theorem Acc3.drew {W : World} {g : Nat} {m : Int} {v0 v1 v2 v3 : Value} {x1 x2 x3 : List Int} (h : Acc3 W g m v0 v1 v2 v3 x1 x2 x3) : Acc3 W.drew g m v0 v1 v2 v3 x1 x2 x3 := h
theorem Acc3.drewN {W : World} {g n : Nat} {m : Int} {v0 v1 v2 v3 : Value} {x1 x2 x3 : List Int} (h : Acc3 W g m v0 v1 v2 v3 x1 x2 x3) : Acc3 (W.drewN n) g m v0 v1 v2 v3 x1 x2 x3 := h
theorem Acc3.push0 {W W2 : World} {g h cap : Nat} {m : Int} {o : Obj} {v0 v1 v2 v3 : Value} {x1 x2 x3 zs : List Int} {n : Nat} (a : Acc3 W g m v0 v1 v2 v3 x1 x2 x3) (hown : OI W2 (g + 1) (.slice (some ⟨h, 0, none⟩) n cap) zs)
    (hgr : (W.alloc o).grownBy W2 v1.ownBlock) (hat : v1.ownBlock = some h ∨ h = W.heap.size + 1) :
    Acc3 (W2.setCell ⟨g, 2, none⟩ (.slice (some ⟨h, 0, none⟩) n cap)) g m v0 (.slice (some ⟨h, 0, none⟩) n cap) v2 v3 zs x2 x3 ∧ Below g W (W2.setCell ⟨g, 2, none⟩ (.slice (some ⟨h, 0, none⟩) n cap)) := by
  obtain ⟨p1, p2, p3⟩ := push_aux (g := g) a.2.1 a.2.2.1 a.2.2.2.2.1 hgr hat cap n
  obtain ⟨q1, q2, q3⟩ := push_aux (g := g) a.2.1 a.2.2.2.1 a.2.2.2.2.2.1 hgr hat cap n
  have hb := push_below a.2.1 a.lt hgr
  have hr : W2.heap[g]? = some (.cells #[.int .i64 m, v0, v1, v2, v3, .slice none 0 0] 25 (0, 0)) := (hb.block g (by omega)).trans a.1
  exact ⟨⟨heap_setCell_same _ _ _ _ _ _ hr, hown.setc (Nat.lt_succ_self _) _ _, p1.setc (Nat.lt_succ_self _) _ _, q1.setc (Nat.lt_succ_self _) _ _, p2, q2, a.2.2.2.2.2.2⟩, (hb.mono (Nat.le_succ g)).setCell (p := ⟨g, 2, none⟩) (Nat.le_refl _) _⟩
theorem Acc3.push1 {W W2 : World} {g h cap : Nat} {m : Int} {o : Obj} {v0 v1 v2 v3 : Value} {x1 x2 x3 zs : List Int} {n : Nat} (a : Acc3 W g m v0 v1 v2 v3 x1 x2 x3) (hown : OI W2 (g + 1) (.slice (some ⟨h, 0, none⟩) n cap) zs)
    (hgr : (W.alloc o).grownBy W2 v2.ownBlock) (hat : v2.ownBlock = some h ∨ h = W.heap.size + 1) :
    Acc3 (W2.setCell ⟨g, 3, none⟩ (.slice (some ⟨h, 0, none⟩) n cap)) g m v0 v1 (.slice (some ⟨h, 0, none⟩) n cap) v3 x1 zs x3 ∧ Below g W (W2.setCell ⟨g, 3, none⟩ (.slice (some ⟨h, 0, none⟩) n cap)) := by
  obtain ⟨p1, p2, p3⟩ := push_aux (g := g) a.2.2.1 a.2.1 a.2.2.2.2.1.symm hgr hat cap n
  obtain ⟨q1, q2, q3⟩ := push_aux (g := g) a.2.2.1 a.2.2.2.1 a.2.2.2.2.2.2 hgr hat cap n
  have hb := push_below a.2.2.1 a.lt hgr
  have hr : W2.heap[g]? = some (.cells #[.int .i64 m, v0, v1, v2, v3, .slice none 0 0] 25 (0, 0)) := (hb.block g (by omega)).trans a.1
  exact ⟨⟨heap_setCell_same _ _ _ _ _ _ hr, p1.setc (Nat.lt_succ_self _) _ _, hown.setc (Nat.lt_succ_self _) _ _, q1.setc (Nat.lt_succ_self _) _ _, p3, a.2.2.2.2.2.1, q2⟩, (hb.mono (Nat.le_succ g)).setCell (p := ⟨g, 3, none⟩) (Nat.le_refl _) _⟩
theorem Acc3.push2 {W W2 : World} {g h cap : Nat} {m : Int} {o : Obj} {v0 v1 v2 v3 : Value} {x1 x2 x3 zs : List Int} {n : Nat} (a : Acc3 W g m v0 v1 v2 v3 x1 x2 x3) (hown : OI W2 (g + 1) (.slice (some ⟨h, 0, none⟩) n cap) zs)
    (hgr : (W.alloc o).grownBy W2 v3.ownBlock) (hat : v3.ownBlock = some h ∨ h = W.heap.size + 1) :
    Acc3 (W2.setCell ⟨g, 4, none⟩ (.slice (some ⟨h, 0, none⟩) n cap)) g m v0 v1 v2 (.slice (some ⟨h, 0, none⟩) n cap) x1 x2 zs ∧ Below g W (W2.setCell ⟨g, 4, none⟩ (.slice (some ⟨h, 0, none⟩) n cap)) := by
  obtain ⟨p1, p2, p3⟩ := push_aux (g := g) a.2.2.2.1 a.2.1 a.2.2.2.2.2.1.symm hgr hat cap n
  obtain ⟨q1, q2, q3⟩ := push_aux (g := g) a.2.2.2.1 a.2.2.1 a.2.2.2.2.2.2.symm hgr hat cap n
  have hb := push_below a.2.2.2.1 a.lt hgr
  have hr : W2.heap[g]? = some (.cells #[.int .i64 m, v0, v1, v2, v3, .slice none 0 0] 25 (0, 0)) := (hb.block g (by omega)).trans a.1
  exact ⟨⟨heap_setCell_same _ _ _ _ _ _ hr, p1.setc (Nat.lt_succ_self _) _ _, q1.setc (Nat.lt_succ_self _) _ _, hown.setc (Nat.lt_succ_self _) _ _, a.2.2.2.2.1, p3, q3⟩, (hb.mono (Nat.le_succ g)).setCell (p := ⟨g, 4, none⟩) (Nat.le_refl _) _⟩
theorem Acc3.mid {W W2 : World} {g : Nat} {m : Int} {o : Obj} {v v0 v1 v2 v3 : Value} {x1 x2 x3 xs : List Int} (a : Acc3 W g m v0 v1 v2 v3 x1 x2 x3) (hv : OI W (g + 1) v xs) (hgr : (W.alloc o).grownBy W2 v.ownBlock) : W2.heap[g]? = some (.cells #[.int .i64 m, v0, v1, v2, v3, .slice none 0 0] 25 (0, 0)) :=
  ((push_below hv a.lt hgr).block g (Nat.lt_succ_self _)).trans a.1
theorem Acc3.mid0 {W W2 : World} {g : Nat} {m : Int} {o : Obj} {v0 v1 v2 v3 : Value} {x1 x2 x3 : List Int} (a : Acc3 W g m v0 v1 v2 v3 x1 x2 x3) (hgr : (W.alloc o).grownBy W2 v1.ownBlock) : W2.cell? ⟨g, 2, none⟩ = some v1 ∧ W2.frozen? ⟨g, 2, none⟩ = false := by
  have hr := a.mid a.2.1 hgr
  exact ⟨by rw [cell_of_row _ _ _ _ _ _ hr]; rfl, frozen_of_row _ _ _ _ _ hr⟩
theorem Acc3.mid1 {W W2 : World} {g : Nat} {m : Int} {o : Obj} {v0 v1 v2 v3 : Value} {x1 x2 x3 : List Int} (a : Acc3 W g m v0 v1 v2 v3 x1 x2 x3) (hgr : (W.alloc o).grownBy W2 v2.ownBlock) : W2.cell? ⟨g, 3, none⟩ = some v2 ∧ W2.frozen? ⟨g, 3, none⟩ = false := by
  have hr := a.mid a.2.2.1 hgr
  exact ⟨by rw [cell_of_row _ _ _ _ _ _ hr]; rfl, frozen_of_row _ _ _ _ _ hr⟩
theorem Acc3.mid2 {W W2 : World} {g : Nat} {m : Int} {o : Obj} {v0 v1 v2 v3 : Value} {x1 x2 x3 : List Int} (a : Acc3 W g m v0 v1 v2 v3 x1 x2 x3) (hgr : (W.alloc o).grownBy W2 v3.ownBlock) : W2.cell? ⟨g, 4, none⟩ = some v3 ∧ W2.frozen? ⟨g, 4, none⟩ = false := by
  have hr := a.mid a.2.2.2.1 hgr
  exact ⟨by rw [cell_of_row _ _ _ _ _ _ hr]; rfl, frozen_of_row _ _ _ _ _ hr⟩
/-- What a selection of four lists in new memory is. -/
def Sel4 (w' : World) (lo : Nat) (v0 v1 v2 v3 : Value) (x0 x1 x2 x3 : List Int) : Prop :=
  OI w' lo v0 x0 ∧ OI w' lo v1 x1 ∧ OI w' lo v2 x2 ∧ OI w' lo v3 x3 ∧ Apart v0 v1 ∧ Apart v0 v2 ∧ Apart v0 v3 ∧ Apart v1 v2 ∧ Apart v1 v3 ∧ Apart v2 v3
theorem Sel4.nil (w' : World) (lo : Nat) : Sel4 w' lo (.slice none 0 0) (.slice none 0 0) (.slice none 0 0) (.slice none 0 0) [] [] [] [] := by
  refine ⟨oi_none _ _, oi_none _ _, oi_none _ _, oi_none _ _, ?_, ?_, ?_, ?_, ?_, ?_⟩ <;> exact fun g hg => by simp [Value.ownBlock] at hg
/-- Each list keeps its row where all blocks but one, in which no row lies, are as before. -/
theorem Sel4.same {W V : World} {lo r : Nat} {v0 v1 v2 v3 : Value} {x0 x1 x2 x3 : List Int} (h : Sel4 W lo v0 v1 v2 v3 x0 x1 x2 x3) (hr : r < lo ∨ W.heap.size ≤ r) (hk : ∀ k, k < W.heap.size → k ≠ r → V.heap[k]? = W.heap[k]?) : Sel4 V lo v0 v1 v2 v3 x0 x1 x2 x3 := by
  have key : ∀ {v : Value} {zs : List Int}, OI W lo v zs → OI V lo v zs := fun h2 => h2.same fun g hg => hk g (h2.wi g hg).2 (fun e => by have := h2.wi g hg; omega)
  exact ⟨key h.1, key h.2.1, key h.2.2.1, key h.2.2.2.1, h.2.2.2.2⟩
theorem Sel4.bel {W V : World} {lo : Nat} {v0 v1 v2 v3 : Value} {x0 x1 x2 x3 : List Int} (h : Sel4 W lo v0 v1 v2 v3 x0 x1 x2 x3) (hb : Below W.heap.size W V) : Sel4 V lo v0 v1 v2 v3 x0 x1 x2 x3 :=
  ⟨h.1.bel hb, h.2.1.bel hb, h.2.2.1.bel hb, h.2.2.2.1.bel hb, h.2.2.2.2⟩
theorem Sel4.lo {W : World} {lo lo' : Nat} {v0 v1 v2 v3 : Value} {x0 x1 x2 x3 : List Int} (h : Sel4 W lo v0 v1 v2 v3 x0 x1 x2 x3) (hl : lo' ≤ lo) : Sel4 W lo' v0 v1 v2 v3 x0 x1 x2 x3 :=
  ⟨h.1.lo hl, h.2.1.lo hl, h.2.2.1.lo hl, h.2.2.2.1.lo hl, h.2.2.2.2⟩
/-- What has grown, with the list made ahead of it, is a selection in new memory. -/
theorem Acc3.sel {W V : World} {g lo : Nat} {m : Int} {v0 v1 v2 v3 : Value} {x0 x1 x2 x3 : List Int} (a : Acc3 W g m v0 v1 v2 v3 x1 x2 x3) (h0 : OI V lo v0 x0) (hV : V.heap.size = g) (hb : Below g V W) (hlo : lo ≤ g) : Sel4 W lo v0 v1 v2 v3 x0 x1 x2 x3 := by
  subst hV
  have key : ∀ {v : Value} {zs : List Int}, OI W (V.heap.size + 1) v zs → Apart v0 v := fun h2 k hk he => by
    have := (h0.wi k hk).2; have := (h2.wi k he).1; omega
  exact ⟨h0.bel hb, a.2.1.lo (by omega), a.2.2.1.lo (by omega), a.2.2.2.1.lo (by omega), key a.2.1, key a.2.2.1, key a.2.2.2.1, a.2.2.2.2⟩
/-- A selection in new memory, and a value beside it. -/
def AnsSel (m : Int) (x0 x1 x2 x3 : List Int) (x : Value) (w : World) (e : Ending) (w' : World) : Prop := ∃ A0 A1 A2 A3 c0 c1 c2 c3, e = .returned (.tuple #[.agg #[.int .i64 m, .slice A0 x0.length c0, .slice A1 x1.length c1, .slice A2 x2.length c2, .slice A3 x3.length c3, .slice none 0 0], x]) ∧
  Sel4 w' w.heap.size (.slice A0 x0.length c0) (.slice A1 x1.length c1) (.slice A2 x2.length c2) (.slice A3 x3.length c3) x0 x1 x2 x3 ∧ Below w.heap.size w w'
theorem ansSel_nil {w W : World} (x : Value) (h : Below w.heap.size w W) : AnsSel 0 [] [] [] [] x w (.returned (.tuple #[.agg #[.int .i64 0, .slice none 0 0, .slice none 0 0, .slice none 0 0, .slice none 0 0, .slice none 0 0], x])) W :=
  ⟨none, none, none, none, 0, 0, 0, 0, rfl, Sel4.nil _ _, h⟩
theorem Sel4.ans {w W : World} {m : Int} {v0 v1 v2 v3 x : Value} {x0 x1 x2 x3 : List Int} (s : Sel4 W w.heap.size v0 v1 v2 v3 x0 x1 x2 x3) (h : Below w.heap.size w W) : AnsSel m x0 x1 x2 x3 x w (.returned (.tuple #[.agg #[.int .i64 m, v0, v1, v2, v3, .slice none 0 0], x])) W := by
  obtain ⟨A0, c0, rfl⟩ := s.1.sl
  obtain ⟨A1, c1, rfl⟩ := s.2.1.sl
  obtain ⟨A2, c2, rfl⟩ := s.2.2.1.sl
  obtain ⟨A3, c3, rfl⟩ := s.2.2.2.1.sl
  exact ⟨A0, A1, A2, A3, c0, c1, c2, c3, rfl, s, h⟩
end Go.Proofs.Ytbghekgghiamcaa
