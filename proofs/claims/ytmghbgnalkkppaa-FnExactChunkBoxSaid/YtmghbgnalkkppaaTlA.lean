/- Chunks: the program's division into chunks, keys of places. No statement is proved here. -/
import Derived.Test.YtmghbgnalkkppaaTlP
import Derived.Test.YtmghbgnalkkppaaGrO
import Derived.StillTailTactics
namespace Go.Proofs.Ytmghbgnalkkppaa
open Go.RowKit
set_option linter.unusedVariables false
theorem wpList_index {P : Program} {ops : Array Oper} {rest : List Oper} {o : Oper} {a : Act} {w : World} {Q : Exit → Act → World → Prop} (hgd : o.guard = none) (ty : TypeId) (x y : Operand) (ho : o.op = .index ty x y)
    (u i : Value) (hx : a.eval x = u) (hy : a.eval y = i) (v : Value) (hrun : (Instr.index ty u i).run P w = .ok v w) (h : wpList P ops Q rest (a.put o.dst v) w) : wpList P ops Q (o :: rest) a w :=
  wpList_plain hgd fun K hK => by
    unfold Oper.wp execOp
    simp only [ho, hx, hy, Sem.run_bind, hrun, Result.andThen_ok, Sem.run_pure]
    exact hK _ _ h
set_option maxHeartbeats 1000000 in
set_option maxRecDepth 100000 in
theorem key_abc (a b c : Int) (ha : 0 ≤ a ∧ a ≤ 40) (hb : 0 ≤ b ∧ b ≤ 40) (hc : 0 ≤ c ∧ c ≤ 40) (w : World) :
    Calls Try.prog 46 #[.agg #[.int .i64 a, .int .i64 b, .int .i64 c]] w (GivesB (.int .i64 (pkL [a, b, c])) w) := by
  have HB0 : Hid (Below w.heap.size w (w.alloc (.cells #[.int .i64 a, .int .i64 b, .int .i64 c] 55))) := Lib.hid ((Below.refl _ w).alloc (Nat.le_refl _) _)
  have Hld := Lib.hid (run_loadVar_row (P := Try.prog) (w.alloc (.cells #[.int .i64 a, .int .i64 b, .int .i64 c] 55)) w.heap.size 55 55 _ (0, 0) _ (heap_alloc_new w _) Try.underlying55 rfl (by kernel_rfl))
  have e0 : (0 : Int) * 16 + a = a := by omega
  have w1 : IntKind.i64.wrap a = a := IntWalk.i64_in _ (by omega)
  have w2 : IntKind.i64.wrap (a * 16) = a * 16 := IntWalk.i64_in _ (by omega)
  have w3 : IntKind.i64.wrap (a * 16 + b) = a * 16 + b := IntWalk.i64_in _ (by omega)
  have w4 : IntKind.i64.wrap ((a * 16 + b) * 16) = (a * 16 + b) * 16 := IntWalk.i64_in _ (by omega)
  have w5 : IntKind.i64.wrap ((a * 16 + b) * 16 + c) = (a * 16 + b) * 16 + c := IntWalk.i64_in _ (by omega)
  have HV : Hid (pkL [a, b, c] = (a * 16 + b) * 16 + c) := Lib.hid (by simp [pkL, pkK]; omega)
  have X0 := Lib.hid (fun W : World => (show (Instr.index 55 (.agg #[.int .i64 a, .int .i64 b, .int .i64 c]) (.int .i64 0)).run Try.prog W = .ok (.int .i64 a) W by kernel_rfl))
  have X1 := Lib.hid (fun W : World => (show (Instr.index 55 (.agg #[.int .i64 a, .int .i64 b, .int .i64 c]) (.int .i64 1)).run Try.prog W = .ok (.int .i64 b) W by kernel_rfl))
  have X2 := Lib.hid (fun W : World => (show (Instr.index 55 (.agg #[.int .i64 a, .int .i64 b, .int .i64 c]) (.int .i64 2)).run Try.prog W = .ok (.int .i64 c) W by kernel_rfl))
  go_enter Try.func46, Try.ntmps46
  go_wp2_with (refine wpList_load_agg rfl 55 (.tmp 1) rfl _ rfl _ Hld.out ?_)
  go_loop [3, 7] (fun n i => (n = .int .i64 0 ∧ i = .int .i64 0) ∨ (n = .int .i64 a ∧ i = .int .i64 1) ∨ (n = .int .i64 (a * 16 + b) ∧ i = .int .i64 2) ∨ (n = .int .i64 ((a * 16 + b) * 16 + c) ∧ i = .int .i64 3)) (fun _ i => 3 - (intOf i).toNat)
  case atStart => exact .inl ⟨rfl, rfl⟩
  case round =>
    rcases hrel with ⟨rfl, rfl⟩ | ⟨rfl, rfl⟩ | ⟨rfl, rfl⟩ | ⟨rfl, rfl⟩
    · go_wp2_with (refine wpList_index rfl 55 (.tmp 6) (.tmp 7) rfl _ _ rfl rfl _ (X0.out _) ?_)
      go_round
      case rel => exact .inr (.inl ⟨by simp, rfl⟩)
      case measure => simp [intOf]
    · go_wp2_with (refine wpList_index rfl 55 (.tmp 6) (.tmp 7) rfl _ _ rfl rfl _ (X1.out _) ?_)
      go_round
      case rel => exact .inr (.inr (.inl ⟨rfl, rfl⟩))
      case measure => simp [intOf]
    · go_wp2_with (refine wpList_index rfl 55 (.tmp 6) (.tmp 7) rfl _ _ rfl rfl _ (X2.out _) ?_)
      go_round
      case rel => exact .inr (.inr (.inr ⟨rfl, rfl⟩))
      case measure => simp [intOf]
    · go_wp2
      go_ret
      exact ⟨by rw [HV.out]; rfl, HB0.out⟩
theorem key_any {xs : List Int} (hl : xs.length = 3) (hx : ∀ x ∈ xs, 0 ≤ x ∧ x < 16) (w : World) : Calls Try.prog 46 #[aggI xs] w (GivesB (.int .i64 (pkL xs)) w) := by
  rcases xs with _ | ⟨a, _ | ⟨b, _ | ⟨c, _ | ⟨d, t⟩⟩⟩⟩ <;> simp at hl
  have := hx a (by simp); have := hx b (by simp); have := hx c (by simp)
  exact key_abc a b c (by omega) (by omega) (by omega) w
/-- A row that a loop fills with numbers. -/
def Fill (w : World) (b n j : Nat) (f : Nat → Int) (C : Array Value) : Prop := w.heap[b]? = some (.cells C 2 (0, 0)) ∧ C.size = n ∧ ∀ k, k < j → k < n → C[k]? = some (.int .i64 (f k))
theorem Fill.set {w : World} {b n j : Nat} {f : Nat → Int} {C : Array Value} (h : Fill w b n j f C) (hj : j < n) : Fill (w.setCell ⟨b, j, none⟩ (.int .i64 (f j))) b n (j + 1) f (C.setIfInBounds j (.int .i64 (f j))) := by
  obtain ⟨h1, h2, h3⟩ := h
  refine ⟨heap_setCell_same _ _ _ _ _ _ h1, by simp [h2], fun k hk hn => ?_⟩
  rw [Array.getElem?_setIfInBounds]
  by_cases e : j = k
  · subst e
    rw [if_pos rfl, if_pos (by rw [h2]; exact hj)]
  · rw [if_neg e]; exact h3 k (by omega) hn
theorem Fill.row {w : World} {b n : Nat} {f : Nat → Int} {C : Array Value} (h : Fill w b n n f C) : Row w b ((List.range n).map f) := by
  obtain ⟨h1, h2, h3⟩ := h
  have : C = cellsI ((List.range n).map f) := by
    apply Array.ext
    · simp [cellsI, h2]
    · intro i hi hi2
      have := h3 i (by rw [← h2]; exact hi) (by rw [← h2]; exact hi)
      rw [Array.getElem?_eq_getElem hi] at this
      rw [Option.some.inj this]
      simp [cellsI]
  rw [this] at h1
  exact h1
theorem Fill.bel {w W : World} {b n j : Nat} {f : Nat → Int} {C : Array Value} (h : Fill w b n j f C) (hb : Below w.heap.size w W) : Fill W b n j f C :=
  ⟨(hb.block _ (Array.getElem?_eq_some_iff.1 h.1).1).trans h.1, h.2⟩
theorem Fill.cell {w : World} {b n j : Nat} {f : Nat → Int} {C : Array Value} (h : Fill w b n j f C) (k : Nat) (hk : k < n) : (∃ u, w.cell? ⟨b, k, none⟩ = some u ∧ (k < j → u = .int .i64 (f k))) ∧ w.frozen? ⟨b, k, none⟩ = false := by
  refine ⟨⟨C[k]'(by rw [h.2.1]; exact hk), ?_, fun hj => ?_⟩, frozen_of_row _ _ _ _ _ h.1⟩
  · rw [cell_of_row _ _ _ _ _ _ h.1, Array.getElem?_eq_getElem (by rw [h.2.1]; exact hk)]
  · have := h.2.2 k hj hk
    rw [Array.getElem?_eq_getElem (by rw [h.2.1]; exact hk)] at this
    exact Option.some.inj this
end Go.Proofs.Ytmghbgnalkkppaa
