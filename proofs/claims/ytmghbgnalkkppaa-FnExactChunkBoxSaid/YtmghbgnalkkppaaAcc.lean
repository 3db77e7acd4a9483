/- A struct of two lists that grow by append. No statement is proved here. -/
import Derived.Test.YtmghbgnalkkppaaMrS
import Derived.Deep.AppendLies
import Derived.OwnWalk
import Derived.Laws.ResultCell
namespace Go.Proofs.Ytmghbgnalkkppaa
open Go.RowKit
set_option linter.unusedVariables false
/-- Two lists under way: block g holds the struct of the two slices, whose rows lie behind g. -/
def Acc (W : World) (g : Nat) (t : TypeId) (v1 v2 : Value) (xs ys : List Int) : Prop :=
  W.heap[g]? = some (.cells #[v1, v2] t (0, 0)) ∧ OI W (g + 1) v1 xs ∧ OI W (g + 1) v2 ys ∧ Apart v1 v2
theorem oi_none (w : World) (lo : Nat) : OI w lo (.slice none 0 0) [] := ⟨by simp, .inl ⟨rfl, rfl⟩⟩
theorem Acc.start (w : World) (t : TypeId) : Acc (w.alloc (.cells #[.slice none 0 0, .slice none 0 0] t)) w.heap.size t (.slice none 0 0) (.slice none 0 0) [] [] :=
  ⟨heap_alloc_new w _, oi_none _ _, oi_none _ _, fun g hg => by simp [Value.ownBlock] at hg⟩
theorem Acc.lt {W : World} {g : Nat} {t : TypeId} {v1 v2 : Value} {xs ys : List Int} (h : Acc W g t v1 v2 xs ys) : g < W.heap.size := by
  rcases Nat.lt_or_ge g W.heap.size with hl | hl
  · exact hl
  · have := h.1; rw [Array.getElem?_eq_none hl] at this; cases this
theorem Acc.c0 {W : World} {g : Nat} {t : TypeId} {v1 v2 : Value} {xs ys : List Int} (h : Acc W g t v1 v2 xs ys) : W.cell? ⟨g, 0, none⟩ = some v1 := by rw [cell_of_row _ _ _ _ _ _ h.1]; rfl
theorem Acc.c1 {W : World} {g : Nat} {t : TypeId} {v1 v2 : Value} {xs ys : List Int} (h : Acc W g t v1 v2 xs ys) : W.cell? ⟨g, 1, none⟩ = some v2 := by rw [cell_of_row _ _ _ _ _ _ h.1]; rfl
theorem Acc.f {W : World} {g : Nat} {t : TypeId} {v1 v2 : Value} {xs ys : List Int} (h : Acc W g t v1 v2 xs ys) (j : Nat) : W.frozen? ⟨g, j, none⟩ = false := frozen_of_row _ _ _ _ _ h.1
theorem Acc.keep {W W' : World} {g : Nat} {t : TypeId} {v1 v2 : Value} {xs ys : List Int} (h : Acc W g t v1 v2 xs ys) (hb : Below W.heap.size W W') : Acc W' g t v1 v2 xs ys :=
  ⟨(hb.block _ h.lt).trans h.1, h.2.1.bel hb, h.2.2.1.bel hb, h.2.2.2⟩
theorem Acc.drew {W : World} {g : Nat} {t : TypeId} {v1 v2 : Value} {xs ys : List Int} (h : Acc W g t v1 v2 xs ys) : Acc W.drew g t v1 v2 xs ys := h
theorem Acc.drewN {W : World} {g n : Nat} {t : TypeId} {v1 v2 : Value} {xs ys : List Int} (h : Acc W g t v1 v2 xs ys) : Acc (W.drewN n) g t v1 v2 xs ys := h
theorem OI.setc {w : World} {lo b : Nat} {v : Value} {xs : List Int} (h : OI w lo v xs) (hb : b < lo) (j : Nat) (u : Value) : OI (w.setCell ⟨b, j, none⟩ u) lo v xs :=
  h.same fun g hg => heap_setCell_other _ ⟨b, j, none⟩ g u (fun e => by have := (h.wi g hg).1; simp at e; omega)
/-- What an append of one number leaves of the other list and of the block. -/
theorem push_aux {W W2 : World} {g h lo : Nat} {o : Obj} {v1 v2 : Value} {xs ys : List Int} (h1 : OI W lo v1 xs) (h2 : OI W lo v2 ys) (hap : Apart v1 v2)
    (hgr : (W.alloc o).grownBy W2 v1.ownBlock) (hat : v1.ownBlock = some h ∨ h = W.heap.size + 1) (cap n : Nat) :
    OI W2 lo v2 ys ∧ Apart (.slice (some ⟨h, 0, none⟩) n cap) v2 ∧ Apart v2 (.slice (some ⟨h, 0, none⟩) n cap) := by
  have ha : Below W.heap.size W (W.alloc o) := (Below.refl _ _).alloc (Nat.le_refl _) _
  have hne : ∀ k, v2.ownBlock = some k → k ≠ h := fun k hk e => by
    subst e
    rcases hat with e1 | e1
    · exact hap _ e1 hk
    · have := (h2.wi _ hk).2; omega
  refine ⟨(h2.bel ha).same fun k hk => hgr.block k (by have := (h2.wi _ hk).2; simp; omega) (fun e => hap k e.symm hk), fun k hk he => ?_, fun k hk he => ?_⟩
  · simp [Value.ownBlock] at hk; exact hne k he hk.symm
  · simp [Value.ownBlock] at he; exact hne k hk he.symm
theorem push_below {W W2 : World} {g : Nat} {o : Obj} {v1 : Value} {xs : List Int} (h1 : OI W (g + 1) v1 xs) (hg : g < W.heap.size) (hgr : (W.alloc o).grownBy W2 v1.ownBlock) : Below (g + 1) W W2 :=
  ((Below.refl _ W).alloc (by omega) o).grown hgr (by simp; omega) (fun k hk => (h1.wi k hk).1)
theorem Acc.push0 {W W2 : World} {g h cap : Nat} {t : TypeId} {o : Obj} {v1 v2 : Value} {xs ys zs : List Int} {n : Nat} (a : Acc W g t v1 v2 xs ys) (hown : OI W2 (g + 1) (.slice (some ⟨h, 0, none⟩) n cap) zs)
    (hgr : (W.alloc o).grownBy W2 v1.ownBlock) (hat : v1.ownBlock = some h ∨ h = W.heap.size + 1) :
    Acc (W2.setCell ⟨g, 0, none⟩ (.slice (some ⟨h, 0, none⟩) n cap)) g t (.slice (some ⟨h, 0, none⟩) n cap) v2 zs ys ∧ Below g W (W2.setCell ⟨g, 0, none⟩ (.slice (some ⟨h, 0, none⟩) n cap)) := by
  obtain ⟨p1, p2, p3⟩ := push_aux (g := g) a.2.1 a.2.2.1 a.2.2.2 hgr hat cap n
  have hb := push_below a.2.1 a.lt hgr
  have hr : W2.heap[g]? = some (.cells #[v1, v2] t (0, 0)) := (hb.block g (by omega)).trans a.1
  exact ⟨⟨heap_setCell_same _ _ _ _ _ _ hr, hown.setc (Nat.lt_succ_self _) _ _, p1.setc (Nat.lt_succ_self _) _ _, p2⟩, (hb.mono (Nat.le_succ g)).setCell (p := ⟨g, 0, none⟩) (Nat.le_refl _) _⟩
theorem Acc.push1 {W W2 : World} {g h cap : Nat} {t : TypeId} {o : Obj} {v1 v2 : Value} {xs ys zs : List Int} {n : Nat} (a : Acc W g t v1 v2 xs ys) (hown : OI W2 (g + 1) (.slice (some ⟨h, 0, none⟩) n cap) zs)
    (hgr : (W.alloc o).grownBy W2 v2.ownBlock) (hat : v2.ownBlock = some h ∨ h = W.heap.size + 1) :
    Acc (W2.setCell ⟨g, 1, none⟩ (.slice (some ⟨h, 0, none⟩) n cap)) g t v1 (.slice (some ⟨h, 0, none⟩) n cap) xs zs ∧ Below g W (W2.setCell ⟨g, 1, none⟩ (.slice (some ⟨h, 0, none⟩) n cap)) := by
  have hap : Apart v2 v1 := fun k hk he => a.2.2.2 k he hk
  obtain ⟨p1, p2, p3⟩ := push_aux (g := g) a.2.2.1 a.2.1 hap hgr hat cap n
  have hb := push_below a.2.2.1 a.lt hgr
  have hr : W2.heap[g]? = some (.cells #[v1, v2] t (0, 0)) := (hb.block g (by omega)).trans a.1
  exact ⟨⟨heap_setCell_same _ _ _ _ _ _ hr, p1.setc (Nat.lt_succ_self _) _ _, hown.setc (Nat.lt_succ_self _) _ _, p3⟩, (hb.mono (Nat.le_succ g)).setCell (p := ⟨g, 1, none⟩) (Nat.le_refl _) _⟩
/-- append of one number that was just laid into a block of its own. -/
theorem wp_push {o : Oper} {a : Act} {K : Act → World → Prop} {Q : Exit → Act → World → Prop} {W : World} {lo B : Nat} {v : Value} {xs : List Int} {x : Int} (s y : Operand)
    (ho : o.op = .call { callee := .builtin .append, args := #[s, y], argTypes := #[22, 22] }) (hs : a.eval s = v) (hx : a.eval y = .slice (some ⟨B, 0, none⟩) 1 1) (hB : W.heap.size = B)
    (hown : OI W lo v xs) (hlo : lo ≤ W.heap.size) (hlen : xs.length ≤ 1048576)
    (h : ∀ g cap w', OI w' lo (.slice (some ⟨g, 0, none⟩) (xs.length + 1) cap) (xs ++ [x]) → (W.alloc (.cells #[.int .i64 x] 2)).grownBy w' v.ownBlock → (v.ownBlock = some g ∨ g = W.heap.size + 1) → g < w'.heap.size →
      K (a.put o.dst (.slice (some ⟨g, 0, none⟩) (xs.length + 1) cap)) w') : Oper.wp Try.prog o a (W.alloc (.cells #[.int .i64 x] 2)) K Q := by
  obtain ⟨i0, hi, hz0, hz1, hz2⟩ := info_parts infoI
  subst hB
  refine wp_append_lies _ s y 22 ho lo 2 i0 (.int .i64 0) 1 8 Try.underlying22 hi hz0 hz1 hz2 rfl (by decide) v xs.length (xs.map (Value.int .i64)) hs (hown.bel ((Below.refl _ W).alloc (Nat.le_refl _) _))
    ⟨W.heap.size, 0, none⟩ 1 1 [.int .i64 x] hx rfl (fun j u hu => ?_) (fun u hu => ?_) (by decide) (by unfold maxLen; omega) (by omega) (by simp; omega) (W.heap.size + 1) (by simp) (fun g cap w' h1 h2 h3 h4 => h g cap w' ?_ h2 h3 h4)
  · rcases j with _ | j
    · obtain rfl := Option.some.inj hu
      rw [add_at, cell_of_row _ _ _ _ _ _ (heap_alloc_new W _)]; rfl
    · simp at hu
  · obtain rfl := List.mem_singleton.1 hu; rfl
  · unfold OI; rw [List.length_append, List.map_append]; exact h1
/-- The same, its slot named. -/
theorem wp_pushd (d : Option Tmp) {o : Oper} {a : Act} {K : Act → World → Prop} {Q : Exit → Act → World → Prop} {W : World} {lo B : Nat} {v : Value} {xs : List Int} {x : Int} {E : Prop} {ops : Array Oper} (hw : Region.wanted o (yielded ops a.tmps) = true) (s y : Operand) (hd : o.dst = d)
    (ho : o.op = .call { callee := .builtin .append, args := #[s, y], argTypes := #[22, 22] }) (hs : a.eval s = v) (hx : a.eval y = .slice (some ⟨B, 0, none⟩) 1 1) (hB : W.heap.size = B)
    (hown : OI W lo v xs) (hlo : lo ≤ W.heap.size) (hlen : xs.length ≤ 1048576)
    (h : ∀ g cap w', OI w' lo (.slice (some ⟨g, 0, none⟩) (xs.length + 1) cap) (xs ++ [x]) → (W.alloc (.cells #[.int .i64 x] 2)).grownBy w' v.ownBlock → (v.ownBlock = some g ∨ g = W.heap.size + 1) → g < w'.heap.size →
      K (a.put d (.slice (some ⟨g, 0, none⟩) (xs.length + 1) cap)) w') : if Region.wanted o (yielded ops a.tmps) = true then Oper.wp Try.prog o a (W.alloc (.cells #[.int .i64 x] 2)) K Q else E := by
  subst hd
  rw [if_pos hw]
  exact wp_push s y ho hs hx hB hown hlo hlen h
theorem wpList_push {ops : Array Oper} {rest : List Oper} {o : Oper} {a : Act} {Q : Exit → Act → World → Prop} {W : World} {lo B : Nat} {v : Value} {xs : List Int} {x : Int} (hgd : o.guard = none) (s y : Operand)
    (ho : o.op = .call { callee := .builtin .append, args := #[s, y], argTypes := #[22, 22] }) (hs : a.eval s = v) (hx : a.eval y = .slice (some ⟨B, 0, none⟩) 1 1) (hB : W.heap.size = B)
    (hown : OI W lo v xs) (hlo : lo ≤ W.heap.size) (hlen : xs.length ≤ 1048576)
    (h : ∀ g cap w', OI w' lo (.slice (some ⟨g, 0, none⟩) (xs.length + 1) cap) (xs ++ [x]) → (W.alloc (.cells #[.int .i64 x] 2)).grownBy w' v.ownBlock → (v.ownBlock = some g ∨ g = W.heap.size + 1) → g < w'.heap.size →
      wpList Try.prog ops Q rest (a.put o.dst (.slice (some ⟨g, 0, none⟩) (xs.length + 1) cap)) w') : wpList Try.prog ops Q (o :: rest) a (W.alloc (.cells #[.int .i64 x] 2)) :=
  wpList_plain hgd fun _ hK => wp_push s y ho hs hx hB hown hlo hlen fun g cap w' h1 h2 h3 h4 => hK _ _ (h g cap w' h1 h2 h3 h4)
theorem Acc.mid0 {W W2 : World} {g : Nat} {t : TypeId} {o : Obj} {v1 v2 : Value} {xs ys : List Int} (a : Acc W g t v1 v2 xs ys) (hgr : (W.alloc o).grownBy W2 v1.ownBlock) : W2.cell? ⟨g, 0, none⟩ = some v1 ∧ W2.frozen? ⟨g, 0, none⟩ = false := by
  have hr : W2.heap[g]? = some (.cells #[v1, v2] t (0, 0)) := ((push_below a.2.1 a.lt hgr).block g (Nat.lt_succ_self _)).trans a.1
  exact ⟨by rw [cell_of_row _ _ _ _ _ _ hr]; rfl, frozen_of_row _ _ _ _ _ hr⟩
theorem Acc.mid1 {W W2 : World} {g : Nat} {t : TypeId} {o : Obj} {v1 v2 : Value} {xs ys : List Int} (a : Acc W g t v1 v2 xs ys) (hgr : (W.alloc o).grownBy W2 v2.ownBlock) : W2.cell? ⟨g, 1, none⟩ = some v2 ∧ W2.frozen? ⟨g, 1, none⟩ = false := by
  have hr : W2.heap[g]? = some (.cells #[v1, v2] t (0, 0)) := ((push_below a.2.2.1 a.lt hgr).block g (Nat.lt_succ_self _)).trans a.1
  exact ⟨by rw [cell_of_row _ _ _ _ _ _ hr]; rfl, frozen_of_row _ _ _ _ _ hr⟩
theorem Quiet.qs2 {P : Program} {f : FuncId} {args : Array Value} {w : World} {m n : Nat} {v : Value} (h : Calls P f args (w.drewN (m + n)) (Quiet v (w.drewN (m + n)))) : Calls P f args (w.drewN (m + n)) fun e w'' => e = .returned v ∧ ∃ k, w'' = w.drewN (m + k) :=
  h.mono fun _ _ ⟨he, hm⟩ => ⟨he, n, hm.symm⟩
theorem take_push {α : Type} (L : List α) (k : Nat) (h : k < L.length) : L.take k ++ [L[k]] = L.take (k + 1) := (List.take_succ_eq_append_getElem h).symm
theorem results_cell_row2 {P : Program} {fn : Func} {p u : Tmp} {ty : TypeId} (h : fn.results = #[.cell p ty, .tmp u]) (tmps : Array Value) (w : World) (g : Nat) (t : TypeId) (cs : Array Value) (fr : Nat × Nat) (d : TypeDesc) (x : Value)
    (hp : tmps.getD p undef = .pointer (some ⟨g, 0, none⟩)) (hx : tmps.getD u undef = x) (hg : w.heap[g]? = some (.cells cs t fr))
    (hu : P.underlying ty = some d) (hd : (match d with | .struct _ | .array _ _ => true | _ => false) = true) (hi : (P.info? ty).map (·.size) = some cs.size) :
    (results fn tmps).run P w = .ok (.tuple #[.agg cs, x]) w := by
  subst hx
  rw [results_cell_tmp h, hp]
  simp [asAddr, run_loadVar_row w g t ty cs fr d hg hu hd hi, Result.andThen]
theorem oldcell {w1 u : World} {p : Addr} {v : Value} (g : Below w1.heap.size w1 u) (h : w1.cell? p = some v) : u.cell? p = some v := (g.cell (World.block_lt_of_cell? w1 p h)).trans h
/-- A struct of two lists in new memory, and a value beside it. -/
def AnsAt (ys ns : List Int) (x : Value) (w : World) (e : Ending) (w' : World) : Prop := ∃ A1 A2 c1 c2, e = .returned (.tuple #[.agg #[.slice A1 ys.length c1, .slice A2 ns.length c2], x]) ∧
  OI w' w.heap.size (.slice A1 ys.length c1) ys ∧ OI w' w.heap.size (.slice A2 ns.length c2) ns ∧ Apart (.slice A1 ys.length c1) (.slice A2 ns.length c2) ∧ Below w.heap.size w w'
theorem ans_nil {w W : World} (x : Value) (h : Below w.heap.size w W) : AnsAt [] [] x w (.returned (.tuple #[.agg #[.slice none 0 0, .slice none 0 0], x])) W :=
  ⟨none, none, 0, 0, rfl, oi_none _ _, oi_none _ _, fun g hg => by simp [Value.ownBlock] at hg, h⟩
/-- The end: what has grown in block g is laid into the result's block r, which is older. -/
theorem Acc.ans {w W V : World} {g r : Nat} {t : TypeId} {v1 v2 x : Value} {xs ys : List Int} {cs : Array Value} (a : Acc W g t v1 v2 xs ys) (hV : Below W.heap.size W V) (hr0 : w.heap.size ≤ r) (hr : r < g) (hw : Below w.heap.size w V) :
    AnsAt xs ys x w (.returned (.tuple #[.agg #[v1, v2], x])) (V.setRow r cs) := by
  have b := a.keep hV
  have key : ∀ {v : Value} {zs : List Int}, OI V (g + 1) v zs → OI (V.setRow r cs) w.heap.size v zs := fun h =>
    (h.same fun k hk => setRow_other V r k cs (fun e => by have := h.wi k hk; omega)).lo (by omega)
  obtain ⟨A1, c1, rfl⟩ := a.2.1.sl
  obtain ⟨A2, c2, rfl⟩ := a.2.2.1.sl
  exact ⟨A1, A2, c1, c2, rfl, key b.2.1, key b.2.2.1, a.2.2.2, below_setRow hw (by omega) _⟩
end Go.Proofs.Ytmghbgnalkkppaa
