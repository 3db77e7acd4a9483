/- Chunks: the program's placeOf. No statement is proved here. -/
import Derived.Test.YtmghbgnalkkppaaTlF
namespace Go.Proofs.Ytmghbgnalkkppaa
open Go.RowKit Go.Shelf
attribute [local go_sem] Oper.semAt_some
set_option linter.unusedVariables false
/-- The caller while no place with the key has come. -/
def PoI (w : World) (key : Int) (T : Bks) (pre : List (List Int)) (W : World) : Prop := (∀ x ∈ pre, pkL x ≠ key) ∧ W.heap[w.heap.size + 1]? = some (.cells #[.int .i64 key] 2 (0, 0)) ∧
  W.heap[w.heap.size + 1 + 1]? = some (.cells #[.int .i64 0, .int .i64 0, .int .i64 0] 55 (0, 0)) ∧ W.heap[w.heap.size + 1 + 1 + 1]? = some (.cells #[.bool false] 4 (0, 0)) ∧ (∀ k, T k → w.heap.size + 1 + 1 + 1 < k) ∧ Below w.heap.size w W
theorem PoI.closed (w : World) (key : Int) : Closed (PoI w key) := by
  rintro T pre X Y ⟨h0, h1, h2, h3, h4, h5⟩ hm
  have n1 := (Array.getElem?_eq_some_iff.1 h3).1
  have nT : ∀ k, k ≤ w.heap.size + 1 + 1 + 1 → ¬ T k := fun k hk e => by have := h4 k e; omega
  refine ⟨h0, (hm.block _ (by omega) (nT _ (by omega))).trans h1, (hm.block _ (by omega) (nT _ (by omega))).trans h2, (hm.block _ (by omega) (nT _ (by omega))).trans h3, ?_, ?_⟩
  · rintro k (hk | hk)
    · exact h4 k hk
    · omega
  · exact ⟨hm.os.trans h5.os, hm.tape.trans h5.tape, hm.output.trans h5.output, Nat.le_trans h5.size hm.size, fun k hk => (hm.block k (by omega) (nT k (by omega))).trans (h5.block k hk)⟩
theorem PoI.bel {w : World} {key : Int} {T : Bks} {pre : List (List Int)} {W V : World} (h : PoI w key T pre W) (hb : Below W.heap.size W V) : PoI w key T pre V := by
  obtain ⟨h0, h1, h2, h3, h4, h5⟩ := h
  have n1 := (Array.getElem?_eq_some_iff.1 h3).1
  exact ⟨h0, (hb.block _ (by omega)).trans h1, (hb.block _ (by omega)).trans h2, (hb.block _ (by omega)).trans h3, h4, h5.trans (hb.mono h5.size)⟩
/-- The caller that has found the place. -/
def PoX (gs : List Int) (w : World) (key : Int) (c : Code) (T : Bks) (pre : List (List Int)) (W : World) : Prop := c = .ret ∧ ∃ ps x, pre = ps ++ [x] ∧ (∀ y ∈ ps, pkL y ≠ key) ∧ pkL x = key ∧ x.length = 3 ∧ x ∈ pls gs ∧
  W.heap[w.heap.size + 1 + 1]? = some (.cells (cellsI x) 55 (0, 0)) ∧ W.heap[w.heap.size + 1 + 1 + 1]? = some (.cells #[.bool true] 4 (0, 0)) ∧ (∀ k, T k → w.heap.size + 1 + 1 + 1 < k) ∧ Below w.heap.size w W
theorem PoX.closed (gs : List Int) (w : World) (key : Int) (c : Code) : Closed (PoX gs w key c) := by
  rintro T pre X Y ⟨hc, ps, x, e1, e2, e3, e4, e5, h2, h3, h4, h5⟩ hm
  have n1 := (Array.getElem?_eq_some_iff.1 h3).1
  have nT : ∀ k, k ≤ w.heap.size + 1 + 1 + 1 → ¬ T k := fun k hk e => by have := h4 k e; omega
  refine ⟨hc, ps, x, e1, e2, e3, e4, e5, (hm.block _ (by omega) (nT _ (by omega))).trans h2, (hm.block _ (by omega) (nT _ (by omega))).trans h3, ?_, ?_⟩
  · rintro k (hk | hk)
    · exact h4 k hk
    · omega
  · exact ⟨hm.os.trans h5.os, hm.tape.trans h5.tape, hm.output.trans h5.output, Nat.le_trans h5.size hm.size, fun k hk => (hm.block k (by omega) (nT k (by omega))).trans (h5.block k hk)⟩
/-- What placeOf answers. -/
def PoA (gs : List Int) (key : Int) (w : World) (e : Ending) (w' : World) : Prop := ((∃ x ∈ pls gs, pkL x = key ∧ e = .returned (.tuple #[aggI x, .bool true])) ∨ (key ∉ kys gs ∧ e = .returned (.tuple #[aggI [0, 0, 0], .bool false]))) ∧ Below w.heap.size w w'
theorem results_cc {fn : Func} {p u : Tmp} {ty ty2 : TypeId} (h : fn.results = #[.cell p ty, .cell u ty2]) (tmps : Array Value) (P : Program) (w : World) :
    (results fn tmps).run P w = ((asAddr (tmps.getD p undef)).run P w).andThen fun a w₁ => ((loadVar ty a).run P w₁).andThen fun x w₂ => ((asAddr (tmps.getD u undef)).run P w₂).andThen fun b w₃ => ((loadVar ty2 b).run P w₃).andThen fun y w₄ => .ok (.tuple #[x, y]) w₄ := by
  simp only [results, h]
  simp [Sem.run_bind, Result.andThen]
theorem results_cell_cell {P : Program} {fn : Func} {p u : Tmp} {ty ty2 : TypeId} (h : fn.results = #[.cell p ty, .cell u ty2]) (tmps : Array Value) (w : World) (g g2 : Nat) (x y : Value)
    (hp : tmps.getD p undef = .pointer (some ⟨g, 0, none⟩)) (hu : tmps.getD u undef = .pointer (some ⟨g2, 0, none⟩)) (h1 : (loadVar ty ⟨g, 0, none⟩).run P w = .ok x w) (h2 : (loadVar ty2 ⟨g2, 0, none⟩).run P w = .ok y w) :
    (results fn tmps).run P w = .ok (.tuple #[x, y]) w := by
  rw [results_cc h, hp, hu]
  simp [asAddr, h1, h2, Result.andThen]
theorem load_bool {W : World} {g : Nat} {b : Bool} (h : W.heap[g]? = some (.cells #[.bool b] 4 (0, 0))) : (loadVar 4 ⟨g, 0, none⟩).run Try.prog W = .ok (.bool b) W := by
  have hc : W.cell? ⟨g, 0, none⟩ = some (.bool b) := by rw [cell_of_row _ _ _ _ _ _ h]; rfl
  simp [go_sem, hc]
/-- Two results, each in a cell, behind the mark of a loop. -/
theorem po_ret {W3 : World} {D g g2 : Nat} {cs : Array Value} {b : Bool} {tmps : Array Value} (hK : W3.heap[D]? = some (.deferred (some []))) (hg : W3.heap[g]? = some (.cells cs 55 (0, 0))) (h2 : W3.heap[g2]? = some (.cells #[.bool b] 4 (0, 0))) (hi : cs.size = 3)
    (t4 : tmps.getD 4 undef = .pointer (some ⟨g, 0, none⟩)) (t5 : tmps.getD 5 undef = .pointer (some ⟨g2, 0, none⟩)) : (results Try.f49 tmps).run Try.prog (W3.putObj D (.deferred none)) = .ok (.tuple #[.agg cs, .bool b]) (W3.putObj D (.deferred none)) := by
  have n1 : g ≠ D := fun e => by subst e; rw [hg] at hK; cases hK
  have n2 : g2 ≠ D := fun e => by subst e; rw [h2] at hK; cases hK
  refine results_cell_cell rfl _ _ g g2 _ _ t4 t5 (run_loadVar_row _ g 55 55 cs (0, 0) _ ((World.putObj_heap_other n1).trans hg) Try.underlying55 rfl ?_) (load_bool ((World.putObj_heap_other n2).trans h2))
  obtain ⟨a, b, c, rfl⟩ : ∃ a b c, cs = #[a, b, c] := by
    rcases cs with ⟨l⟩
    rcases l with _ | ⟨a, _ | ⟨b, _ | ⟨c, _ | ⟨d, t⟩⟩⟩⟩ <;> simp at hi
    exact ⟨a, b, c, rfl⟩
  exact infoP a b c
set_option maxHeartbeats 4000000 in
set_option maxRecDepth 100000 in
theorem placeOf_any {m : Nat} {w : World} {A1 A2 A3 : Option Addr} {l1 c1 l2 c2 l3 c3 : Nat} {gs : List Int} (key : Int) (hR : Ri m w (.slice A3 l3 c3) gs) (hm : m ≤ w.heap.size) (hl : gs.length ≤ 3) (hd : allTo (inD gs) gs.length = true) (hp : prodL gs ≤ 600) :
    Calls Try.prog 49 #[.agg #[.slice A1 l1 c1, .slice A2 l2 c2, .slice A3 l3 c3], .int .i64 key] w (PoA gs key w) := by
  have HPx := Lib.hid (pxp_facts hl hd)
  have HA := Lib.hid (alloc4 w (.cells #[.slice A1 l1 c1, .slice A2 l2 c2, .slice A3 l3 c3] 43) (.cells #[.int .i64 key] 2) (.cells #[.int .i64 0, .int .i64 0, .int .i64 0] 55) (.cells #[.bool false] 4))
  refine (callsIn_wide (n := 3)).1 ?_
  refine callsIn_of_wp_marks Try.func49 rfl trivial ?_ rfl
  simp only [Try.ntmps49, List.size_toArray, List.length_cons, List.length_nil, Nat.reduceAdd, Nat.reduceSub, Array.replicate_succ, Array.replicate_zero, List.push_toArray, List.append_toArray, List.nil_append, List.cons_append]
  gi_wp2
  refine ⟨trivial, ?_⟩
  generalize ((((w.alloc (.cells #[.slice A1 l1 c1, .slice A2 l2 c2, .slice A3 l3 c3] 43)).alloc (.cells #[.int .i64 key] 2)).alloc (.cells #[.int .i64 0, .int .i64 0, .int .i64 0] 55)).alloc (.cells #[.bool false] 4)) = w1 at *
  refine (callsIn_wide.2 (places_any _ _ _ _ _ _ _ _ _ _)).mono ?_
  rintro e w2 ⟨rfl, hw2⟩
  have Hz1 : Hid (w1.heap.size = w.heap.size + 4 ∧ w2.heap.size = w.heap.size + 5) := Lib.hid ⟨HA.out.2.2.2.2.1, by rw [hw2]; simp [HA.out.2.2.2.2.1]⟩
  have Hb12 : Hid (Below w1.heap.size w1 w2) := Lib.hid (by rw [hw2]; exact (Below.refl _ _).alloc (Nat.le_refl _) _)
  have HBt : Hid (w2.heap[w1.heap.size]? = some (.cells #[.slice A1 l1 c1, .slice A2 l2 c2, .slice A3 l3 c3] 43 (0, 0))) := Lib.hid (by rw [hw2]; exact heap_alloc_new _ _)
  have Hbw : Hid (Below w.heap.size w w2) := Lib.hid (HA.out.2.2.2.2.2.trans (Hb12.out.mono (by have := Hz1.out.1; omega)))
  have HI0 : Hid (PoI w key (fun _ => False) [] w2) := Lib.hid (by
    have hz := Hz1.out.1
    exact ⟨fun x hx => by simp at hx, (Hb12.out.block _ (by omega)).trans HA.out.2.1, (Hb12.out.block _ (by omega)).trans HA.out.2.2.1, (Hb12.out.block _ (by omega)).trans HA.out.2.2.2.1, fun k hk => hk.elim, Hbw.out⟩)
  have HYs := places_yields (v1 := .slice A1 l1 c1) (v2 := .slice A2 l2 c2) ⟨_, _, _, rfl⟩ (hR.up (Nat.le_refl _) (Hbw.out.mono hm)) (by have := Hz1.out.2; omega) HBt.out hl hd hp
  have HY := Lib.hid HYs
  clear hw2 HYs
  gi_wp2
  refine range_seq (gf := 62) (lb := #[.pointer (some ⟨w1.heap.size, 0, none⟩)]) rfl (enters_of Try.func62 (by kernel_rfl) rfl) HY.out (SameOn.refl _ _) (by
      have := Hz1.out
      rintro k (hk | hk) <;> omega) (fun _ => False) (fun k hk => hk.elim)
    (PoI w key) (PoX gs w key) (PoI.closed w key) (PoX.closed gs w key) HI0.out
    (fun x v a' W' => ∃ Bp, w.heap.size + 1 + 1 + 1 < Bp ∧ W'.heap[Bp]? = some (.cells (cellsI x) 55 (0, 0)) ∧ x.length = 3 ∧ x ∈ pls gs ∧ (∀ y ∈ x, 0 ≤ y ∧ y ≤ 40) ∧ a' = { tmps := #[.agg #[.slice A1 l1 c1, .slice A2 l2 c2, .slice A3 l3 c3], .int .i64 key, .pointer (some ⟨w.heap.size, 0, none⟩), .pointer (some ⟨w.heap.size + 1, 0, none⟩), .pointer (some ⟨w.heap.size + 1 + 1, 0, none⟩), .pointer (some ⟨w.heap.size + 1 + 1 + 1, 0, none⟩), .pointer (some ⟨Bp, 0, none⟩), .agg #[.slice A1 l1 c1, .slice A2 l2 c2, .slice A3 l3 c3], .func (.func 62) #[] #[.pointer (some ⟨w1.heap.size, 0, none⟩)], v, undef, undef, undef, undef, undef, undef], defers := [] })
    ?hAx ?hassign ?hbody ?hdone ?hstop
  case hAx =>
    intro x v a' s X Y row h hg hr
    obtain ⟨Bp, e0, e1, e2⟩ := h
    exact ⟨Bp, e0, own_cells (β := Unit) () X Y row e1 hg hr, e2⟩
  case hassign =>
    intro l' T' pre x v W' K hI hTa hTb hz hpx hK
    have hmem : x ∈ pls gs := by
      obtain ⟨⟨j, hj, rfl⟩, -⟩ := hpx
      exact List.mem_map.2 ⟨j, List.mem_range.2 hj, rfl⟩
    have Hmem := Lib.hid hmem
    clear hmem
    obtain ⟨rfl, hl3, hnum⟩ := HPx.out x v W' hpx
    clear hpx
    rcases x with _ | ⟨a, _ | ⟨b, _ | ⟨c, _ | ⟨d, t⟩⟩⟩⟩ <;> simp at hl3
    have hag : aggI [a, b, c] = .agg #[.int .i64 a, .int .i64 b, .int .i64 c] := rfl
    rw [hag]
    rw [hag] at hK
    gi_wp2
    exact hK T' _ _ (fun k h => h) (SameOn.bel ((Below.refl _ _).alloc (Nat.le_refl _) _)) (hI.bel ((Below.refl _ _).alloc (Nat.le_refl _) _)) ⟨W'.heap.size, by have := Hz1.out.2; omega, heap_alloc_new _ _, rfl, Hmem.out, hnum, rfl⟩
  case hbody =>
    rintro l' T' pre x v a' W' hI hTa hTb hz ⟨Bp, hBl, hBp, hl3, hmem, hnum, rfl⟩ hlen
    have Hmem := Lib.hid hmem
    clear hmem
    have HI := Lib.hid hI; have HBp := Lib.hid hBp
    obtain ⟨h0, h1, h2, h3, h4, h5⟩ := hI
    have HK := Lib.hid (fun X => key_any40 hl3 hnum X)
    rcases x with _ | ⟨a, _ | ⟨b, _ | ⟨c, _ | ⟨d, t⟩⟩⟩⟩ <;> simp at hl3
    have hmo : Try.prog.follows .mixedOrders = true := by kernel_rfl
    have HC : Hid (∀ X, Below W'.heap.size W' X → (X.cell? ⟨Bp, 0, none⟩ = some (.int .i64 a) ∧ X.cell? ⟨Bp, 1, none⟩ = some (.int .i64 b) ∧ X.cell? ⟨Bp, 2, none⟩ = some (.int .i64 c)) ∧ X.cell? ⟨w.heap.size + 1, 0, none⟩ = some (.int .i64 key)) := Lib.hid (fun X hX => by
      have hp := (hX.block _ (Array.getElem?_eq_some_iff.1 HBp.out).1).trans HBp.out
      have hk := (hX.block _ (Array.getElem?_eq_some_iff.1 h1).1).trans h1
      refine ⟨⟨?_, ?_, ?_⟩, ?_⟩
      · rw [cell_of_row _ _ _ _ _ _ hp]; rfl
      · rw [cell_of_row _ _ _ _ _ _ hp]; rfl
      · rw [cell_of_row _ _ _ _ _ _ hp]; rfl
      · rw [cell_of_row _ _ _ _ _ _ hk]; rfl)
    have hag : aggI [a, b, c] = .agg #[.int .i64 a, .int .i64 b, .int .i64 c] := rfl
    rw [hag] at HK
    obtain ⟨⟨p0, p1, p2⟩, p3⟩ := HC.out _ (Below.refl _ _)
    have HR2 := Lib.hid h2; have HR3 := Lib.hid h3; have H4 := Lib.hid h4; have H5 := Lib.hid h5; have H0 := Lib.hid h0
    generalize hpk : pkL [a, b, c] = y at *
    have Hpk := Lib.hid hpk
    clear h0 h1 h2 h3 h4 h5 hBp hnum hTa hTb hag hpk
    gi_wp2
    gi_region_with_o (refine ⟨trivial, (CallsIn.inRound _ (callsIn_wide.2 (HK.out _))).mono ?_⟩; rintro e v2 ⟨rfl, g2⟩; have k2 : Below W'.heap.size W' v2 := ((Below.refl W'.heap.size W').drew).trans g2; clear g2; obtain ⟨⟨z0, z1, z2⟩, z3⟩ := HC.out _ k2)
    all_goals have K2 := Lib.hid k2
    all_goals clear k2 z3 p0 p1 p2 p3
    all_goals
      by_cases hy : y = key
      · have hq : (y == key) = true := by simp [hy]
        have RG := Lib.hid ((K2.out.block _ (Array.getElem?_eq_some_iff.1 HR2.out).1).trans HR2.out)
        have RB := Lib.hid ((K2.out.block _ (Array.getElem?_eq_some_iff.1 HR3.out).1).trans HR3.out)
        obtain ⟨⟨y0, y1, y2⟩, f0, f1, f2⟩ := zrow RG.out
        have y3 : v2.cell? ⟨w.heap.size + 1 + 1 + 1, 0, none⟩ = some (.bool false) := by rw [cell_of_row _ _ _ _ _ _ RB.out]; rfl
        have f3 : v2.frozen? ⟨w.heap.size + 1 + 1 + 1, 0, none⟩ = false := frozen_of_row _ _ _ _ _ RB.out
        have HV1 : Hid (((((v2.setCell ⟨w.heap.size + 1 + 1, 0, none⟩ (.int .i64 a)).setCell ⟨w.heap.size + 1 + 1, 1, none⟩ (.int .i64 b)).setCell ⟨w.heap.size + 1 + 1, 2, none⟩ (.int .i64 c)).setCell ⟨w.heap.size + 1 + 1 + 1, 0, none⟩ (.bool true)).heap[w.heap.size + 1 + 1]? = some (.cells (cellsI [a, b, c]) 55 (0, 0))) := Lib.hid (by
          have h := heap_setCell_same _ _ 2 _ _ (.int .i64 c) (heap_setCell_same _ _ 1 _ _ (.int .i64 b) (heap_setCell_same _ _ 0 _ _ (.int .i64 a) RG.out))
          rw [heap_setCell_other _ ⟨w.heap.size + 1 + 1 + 1, 0, none⟩ _ _ (show w.heap.size + 1 + 1 ≠ w.heap.size + 1 + 1 + 1 by omega)]
          exact h)
        have HV2 : Hid (((((v2.setCell ⟨w.heap.size + 1 + 1, 0, none⟩ (.int .i64 a)).setCell ⟨w.heap.size + 1 + 1, 1, none⟩ (.int .i64 b)).setCell ⟨w.heap.size + 1 + 1, 2, none⟩ (.int .i64 c)).setCell ⟨w.heap.size + 1 + 1 + 1, 0, none⟩ (.bool true)).heap[w.heap.size + 1 + 1 + 1]? = some (.cells #[.bool true] 4 (0, 0))) := Lib.hid (by
          have h : ((((v2.setCell ⟨w.heap.size + 1 + 1, 0, none⟩ (.int .i64 a)).setCell ⟨w.heap.size + 1 + 1, 1, none⟩ (.int .i64 b)).setCell ⟨w.heap.size + 1 + 1, 2, none⟩ (.int .i64 c))).heap[w.heap.size + 1 + 1 + 1]? = some (.cells #[.bool false] 4 (0, 0)) := by
            have n1 : w.heap.size + 1 + 1 + 1 ≠ w.heap.size + 1 + 1 := by omega
            rw [heap_setCell_other _ ⟨w.heap.size + 1 + 1, 2, none⟩ _ _ n1, heap_setCell_other _ ⟨w.heap.size + 1 + 1, 1, none⟩ _ _ n1, heap_setCell_other _ ⟨w.heap.size + 1 + 1, 0, none⟩ _ _ n1]
            exact RB.out
          exact heap_setCell_same _ _ 0 _ _ (.bool true) h)
        have HV3 : Hid (∀ k, k ≠ w.heap.size + 1 + 1 → k ≠ w.heap.size + 1 + 1 + 1 → ((((v2.setCell ⟨w.heap.size + 1 + 1, 0, none⟩ (.int .i64 a)).setCell ⟨w.heap.size + 1 + 1, 1, none⟩ (.int .i64 b)).setCell ⟨w.heap.size + 1 + 1, 2, none⟩ (.int .i64 c)).setCell ⟨w.heap.size + 1 + 1 + 1, 0, none⟩ (.bool true)).heap[k]? = v2.heap[k]?) := Lib.hid (fun k n1 n2 => by
          rw [heap_setCell_other _ ⟨w.heap.size + 1 + 1 + 1, 0, none⟩ _ _ n2, heap_setCell_other _ ⟨w.heap.size + 1 + 1, 2, none⟩ _ _ n1, heap_setCell_other _ ⟨w.heap.size + 1 + 1, 1, none⟩ _ _ n1, heap_setCell_other _ ⟨w.heap.size + 1 + 1, 0, none⟩ _ _ n1])
        have HV4 : Hid (Below w.heap.size w ((((v2.setCell ⟨w.heap.size + 1 + 1, 0, none⟩ (.int .i64 a)).setCell ⟨w.heap.size + 1 + 1, 1, none⟩ (.int .i64 b)).setCell ⟨w.heap.size + 1 + 1, 2, none⟩ (.int .i64 c)).setCell ⟨w.heap.size + 1 + 1 + 1, 0, none⟩ (.bool true))) := Lib.hid (((((H5.out.trans (K2.out.mono H5.out.size)).setCell (p := ⟨w.heap.size + 1 + 1, 0, none⟩) (by show w.heap.size ≤ w.heap.size + 1 + 1; omega) _).setCell (p := ⟨w.heap.size + 1 + 1, 1, none⟩) (by show w.heap.size ≤ w.heap.size + 1 + 1; omega) _).setCell (p := ⟨w.heap.size + 1 + 1, 2, none⟩) (by show w.heap.size ≤ w.heap.size + 1 + 1; omega) _).setCell (p := ⟨w.heap.size + 1 + 1 + 1, 0, none⟩) (by show w.heap.size ≤ w.heap.size + 1 + 1 + 1; omega) _)
        have HV5 : Hid (((((v2.setCell ⟨w.heap.size + 1 + 1, 0, none⟩ (.int .i64 a)).setCell ⟨w.heap.size + 1 + 1, 1, none⟩ (.int .i64 b)).setCell ⟨w.heap.size + 1 + 1, 2, none⟩ (.int .i64 c)).setCell ⟨w.heap.size + 1 + 1 + 1, 0, none⟩ (.bool true)).heap.size = v2.heap.size) := Lib.hid (by simp)
        have Hy := Lib.hid hy
        clear hy
        gi_wp2
        generalize ((((v2.setCell ⟨w.heap.size + 1 + 1, 0, none⟩ (.int .i64 a)).setCell ⟨w.heap.size + 1 + 1, 1, none⟩ (.int .i64 b)).setCell ⟨w.heap.size + 1 + 1, 2, none⟩ (.int .i64 c)).setCell ⟨w.heap.size + 1 + 1 + 1, 0, none⟩ (.bool true)) = wf at *
        refine ⟨⟨by have := K2.out.size; have := HV5.out; omega, fun k hk hl => ?_⟩, T', fun k h => h, rfl, pre, [a, b, c], rfl, H0.out, Hpk.out.trans Hy.out, rfl, Hmem.out, HV1.out, HV2.out, H4.out, HV4.out⟩
        have := Hz1.out.2
        have hk2 := hk.2
        rw [HV3.out k (by omega) (by omega)]
        exact K2.out.block k hl
      · have hq : (y == key) = false := by simp [hy]
        have Hy := Lib.hid hy
        clear hy
        gi_wp2
        refine ⟨SameOn.bel K2.out, T', fun k h => h, ?_⟩
        obtain ⟨i0, i1⟩ := HI.out.bel K2.out
        refine ⟨fun x hx => ?_, i1⟩
        rcases List.mem_append.1 hx with h | h
        · exact H0.out x h
        · obtain rfl : x = [a, b, c] := by simpa using h
          rw [Hpk.out]; exact Hy.out
  case hdone =>
    rintro D T2 xs W3 hD hTT hTD hSx ⟨h0, h1, h2, h3, h4, h5⟩ hK
    have HK := Lib.hid hK
    have hne : key ∉ kys gs := by
      rw [← kys_pls gs hl, ← hSx]
      intro hm
      obtain ⟨x, hx, e⟩ := List.mem_map.1 hm
      exact h0 x hx e
    have Hne := Lib.hid hne
    have HD : Hid (w.heap.size + 1 + 1 + 1 < D) := Lib.hid (h4 D hTD)
    have HV1 : Hid (((((W3.setCell ⟨w.heap.size + 1 + 1, 0, none⟩ (.int .i64 0)).setCell ⟨w.heap.size + 1 + 1, 1, none⟩ (.int .i64 0)).setCell ⟨w.heap.size + 1 + 1, 2, none⟩ (.int .i64 0)).setCell ⟨w.heap.size + 1 + 1 + 1, 0, none⟩ (.bool false)).heap[w.heap.size + 1 + 1]? = some (.cells #[.int .i64 0, .int .i64 0, .int .i64 0] 55 (0, 0))) := Lib.hid (by
      have h := heap_setCell_same _ _ 2 _ _ (.int .i64 0) (heap_setCell_same _ _ 1 _ _ (.int .i64 0) (heap_setCell_same _ _ 0 _ _ (.int .i64 0) h2))
      rw [heap_setCell_other _ ⟨w.heap.size + 1 + 1 + 1, 0, none⟩ _ _ (show w.heap.size + 1 + 1 ≠ w.heap.size + 1 + 1 + 1 by omega)]
      exact h)
    have HV2 : Hid (((((W3.setCell ⟨w.heap.size + 1 + 1, 0, none⟩ (.int .i64 0)).setCell ⟨w.heap.size + 1 + 1, 1, none⟩ (.int .i64 0)).setCell ⟨w.heap.size + 1 + 1, 2, none⟩ (.int .i64 0)).setCell ⟨w.heap.size + 1 + 1 + 1, 0, none⟩ (.bool false)).heap[w.heap.size + 1 + 1 + 1]? = some (.cells #[.bool false] 4 (0, 0))) := Lib.hid (by
      have h : ((((W3.setCell ⟨w.heap.size + 1 + 1, 0, none⟩ (.int .i64 0)).setCell ⟨w.heap.size + 1 + 1, 1, none⟩ (.int .i64 0)).setCell ⟨w.heap.size + 1 + 1, 2, none⟩ (.int .i64 0))).heap[w.heap.size + 1 + 1 + 1]? = some (.cells #[.bool false] 4 (0, 0)) := by
        have n1 : w.heap.size + 1 + 1 + 1 ≠ w.heap.size + 1 + 1 := by omega
        rw [heap_setCell_other _ ⟨w.heap.size + 1 + 1, 2, none⟩ _ _ n1, heap_setCell_other _ ⟨w.heap.size + 1 + 1, 1, none⟩ _ _ n1, heap_setCell_other _ ⟨w.heap.size + 1 + 1, 0, none⟩ _ _ n1]
        exact h3
      exact heap_setCell_same _ _ 0 _ _ (.bool false) h)
    have HV3 : Hid (((((W3.setCell ⟨w.heap.size + 1 + 1, 0, none⟩ (.int .i64 0)).setCell ⟨w.heap.size + 1 + 1, 1, none⟩ (.int .i64 0)).setCell ⟨w.heap.size + 1 + 1, 2, none⟩ (.int .i64 0)).setCell ⟨w.heap.size + 1 + 1 + 1, 0, none⟩ (.bool false)).heap[D]? = some (.deferred (some []))) := Lib.hid (by
      have := h4 D hTD
      rw [heap_setCell_other _ ⟨w.heap.size + 1 + 1 + 1, 0, none⟩ _ _ (show D ≠ w.heap.size + 1 + 1 + 1 by omega), heap_setCell_other _ ⟨w.heap.size + 1 + 1, 2, none⟩ _ _ (show D ≠ w.heap.size + 1 + 1 by omega), heap_setCell_other _ ⟨w.heap.size + 1 + 1, 1, none⟩ _ _ (show D ≠ w.heap.size + 1 + 1 by omega), heap_setCell_other _ ⟨w.heap.size + 1 + 1, 0, none⟩ _ _ (show D ≠ w.heap.size + 1 + 1 by omega)]
      exact hK)
    have HV4 : Hid (Below w.heap.size w ((((W3.setCell ⟨w.heap.size + 1 + 1, 0, none⟩ (.int .i64 0)).setCell ⟨w.heap.size + 1 + 1, 1, none⟩ (.int .i64 0)).setCell ⟨w.heap.size + 1 + 1, 2, none⟩ (.int .i64 0)).setCell ⟨w.heap.size + 1 + 1 + 1, 0, none⟩ (.bool false))) := Lib.hid ((((h5.setCell (p := ⟨w.heap.size + 1 + 1, 0, none⟩) (by show w.heap.size ≤ w.heap.size + 1 + 1; omega) _).setCell (p := ⟨w.heap.size + 1 + 1, 1, none⟩) (by show w.heap.size ≤ w.heap.size + 1 + 1; omega) _).setCell (p := ⟨w.heap.size + 1 + 1, 2, none⟩) (by show w.heap.size ≤ w.heap.size + 1 + 1; omega) _).setCell (p := ⟨w.heap.size + 1 + 1 + 1, 0, none⟩) (by show w.heap.size ≤ w.heap.size + 1 + 1 + 1; omega) _)
    obtain ⟨⟨y0, y1, y2⟩, f0, f1, f2⟩ := zrow h2
    have y3 : W3.cell? ⟨w.heap.size + 1 + 1 + 1, 0, none⟩ = some (.bool false) := by rw [cell_of_row _ _ _ _ _ _ h3]; rfl
    have f3 : W3.frozen? ⟨w.heap.size + 1 + 1 + 1, 0, none⟩ = false := frozen_of_row _ _ _ _ _ h3
    clear hK h0 h1 h2 h3 h4 h5 hne hD hTT hTD hSx
    gi_wp2
    generalize ((((W3.setCell ⟨w.heap.size + 1 + 1, 0, none⟩ (.int .i64 0)).setCell ⟨w.heap.size + 1 + 1, 1, none⟩ (.int .i64 0)).setCell ⟨w.heap.size + 1 + 1, 2, none⟩ (.int .i64 0)).setCell ⟨w.heap.size + 1 + 1 + 1, 0, none⟩ (.bool false)) = wf at *
    refine ⟨by simp, .inl ⟨_, _, rfl, run_takeDeferred HV3.out, ?_⟩⟩
    refine ⟨_, po_ret HV3.out HV1.out HV2.out rfl (by rfl) (by rfl), ?_, HV4.out.trans (belowK_b (w := w) (Nat.le_refl _) wf D _ _ (by have := HD.out; omega) HV3.out rfl rfl)⟩
    exact .inr ⟨Hne.out, rfl⟩
  case hstop =>
    rintro D T2 c pre W3 hD hTT hTD hS ⟨rfl, ps, x, rfl, h0, hk, hx3, hmem, h2, h3, h4, h5⟩ hK
    have HK := Lib.hid hK
    have HSp := Lib.hid hS
    have HR2 := Lib.hid h2; have HR3 := Lib.hid h3
    have HD : Hid (w.heap.size + 1 + 1 + 1 < D) := Lib.hid (h4 D hTD)
    have HB5 := Lib.hid h5
    have Hk := Lib.hid hk; have Hmem := Lib.hid hmem
    clear hK h0 hk hmem h2 h3 h4 h5 hD hTT hTD hS
    gi_wp2
    refine ⟨by simp, .inl ⟨_, _, rfl, run_takeDeferred HK.out, ?_⟩⟩
    refine ⟨_, po_ret HK.out HR2.out HR3.out (by simp [cellsI, hx3]) (by rfl) (by rfl), ?_, HB5.out.trans (belowK_b (w := w) (Nat.le_refl _) W3 D _ _ (by have := HD.out; omega) HK.out rfl rfl)⟩
    exact .inl ⟨x, Hmem.out, Hk.out, rfl⟩
end Go.Proofs.Ytmghbgnalkkppaa
