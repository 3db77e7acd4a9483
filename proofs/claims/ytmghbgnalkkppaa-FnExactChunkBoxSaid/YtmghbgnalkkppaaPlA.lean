/- Chunks: the program's placeAt. No statement is proved here. -/
import Derived.Test.YtmghbgnalkkppaaTlD
import Derived.Laws.CopyRow
import Derived.Laws.IdiomCopy
namespace Go.Proofs.Ytmghbgnalkkppaa
open Go.RowKit
set_option linter.unusedVariables false
theorem infoI1 : (Try.prog.info? 2).map (·.size) = some 1 := by kernel_rfl
theorem infoP (a b c : Value) : (Try.prog.info? 55).map (·.size) = some (#[a, b, c] : Array Value).size := by kernel_rfl
set_option maxHeartbeats 1000000 in
set_option maxRecDepth 100000 in
theorem placeAt_0 {B : Nat} {w : World} {v : Value}  (h : Ri B w v []) (hB : B ≤ w.heap.size) :
    Calls Try.prog 64 #[v] w (GivesB (.agg #[.int .i64 0, .int .i64 0, .int .i64 0]) w) := by
  obtain ⟨A, cap, rfl, -, -, hx⟩ := h
  have R0 : Hid (((w.alloc (.cells #[.int .i64 0, .int .i64 0, .int .i64 0] 55)).alloc (.cells #[.int .i64 0, .int .i64 0, .int .i64 0] 55)).heap[w.heap.size]? = some (.cells #[.int .i64 0, .int .i64 0, .int .i64 0] 55 (0, 0))) := Lib.hid ((((Below.refl (w.alloc (.cells #[.int .i64 0, .int .i64 0, .int .i64 0] 55)).heap.size (w.alloc (.cells #[.int .i64 0, .int .i64 0, .int .i64 0] 55))).alloc (Nat.le_refl _) _).block w.heap.size (by simp)).trans (heap_alloc_new w _))
  have R1 : Hid (((w.alloc (.cells #[.int .i64 0, .int .i64 0, .int .i64 0] 55)).alloc (.cells #[.int .i64 0, .int .i64 0, .int .i64 0] 55)).heap[w.heap.size + 1]? = some (.cells #[.int .i64 0, .int .i64 0, .int .i64 0] 55 (0, 0))) := Lib.hid (by
    have := heap_alloc_new (w.alloc (.cells #[.int .i64 0, .int .i64 0, .int .i64 0] 55)) (.cells #[.int .i64 0, .int .i64 0, .int .i64 0] 55)
    rwa [show (w.alloc (.cells #[.int .i64 0, .int .i64 0, .int .i64 0] 55)).heap.size = w.heap.size + 1 by simp] at this)
  have HB : Hid (Below w.heap.size w ((w.alloc (.cells #[.int .i64 0, .int .i64 0, .int .i64 0] 55)).alloc (.cells #[.int .i64 0, .int .i64 0, .int .i64 0] 55))) := Lib.hid (((Below.refl _ w).alloc (Nat.le_refl _) _).alloc (by simp) _)
  have hcp := run_copy_none (P := Try.prog) ((w.alloc (.cells #[.int .i64 0, .int .i64 0, .int .i64 0] 55)).alloc (.cells #[.int .i64 0, .int .i64 0, .int .i64 0] 55)) 22 22 3 2 (some ⟨w.heap.size + 1, 0, none⟩) A 0 0 0 cap Try.underlying22 infoI1 rfl
  clear hx
  have RR0 := R0
  have HBW := HB
  have Hld := Lib.hid (run_loadVar_row (P := Try.prog) _ (w.heap.size + 1) 55 55 _ (0, 0) _ R1.out Try.underlying55 rfl (by kernel_rfl))
  go_enter Try.func64, Try.ntmps64
  go_wp2_with (first | (refine wpList_load_agg rfl 55 (.tmp 3) rfl _ rfl _ Hld.out ?_) | (refine wpList_store_row rfl 55 (.tmp 2) (.tmp 10) rfl w.heap.size #[.int .i64 0, .int .i64 0, .int .i64 0] rfl rfl 55 _ RR0.out (by kernel_rfl) rfl (by simp [Value.oneCell']) ?_))
  refine bodyPost_ret (v := .agg #[.int .i64 0, .int .i64 0, .int .i64 0]) ?_ rfl ?_
  · exact results_cell_row rfl _ _ w.heap.size 55 _ (0, 0) _ rfl (setRow_heap _ _ _ _ _ _ RR0.out) Try.underlying55 rfl (by kernel_rfl)
  · exact ⟨rfl, below_setRow HBW.out (Nat.le_refl _) _⟩
set_option maxHeartbeats 1000000 in
set_option maxRecDepth 100000 in
theorem placeAt_1 {B : Nat} {w : World} {v : Value} {a : Int} (h : Ri B w v [a]) (hB : B ≤ w.heap.size) :
    Calls Try.prog 64 #[v] w (GivesB (.agg #[.int .i64 0, .int .i64 0, .int .i64 a]) w) := by
  obtain ⟨A, cap, rfl, -, -, hx⟩ := h
  have R0 : Hid (((w.alloc (.cells #[.int .i64 0, .int .i64 0, .int .i64 0] 55)).alloc (.cells #[.int .i64 0, .int .i64 0, .int .i64 0] 55)).heap[w.heap.size]? = some (.cells #[.int .i64 0, .int .i64 0, .int .i64 0] 55 (0, 0))) := Lib.hid ((((Below.refl (w.alloc (.cells #[.int .i64 0, .int .i64 0, .int .i64 0] 55)).heap.size (w.alloc (.cells #[.int .i64 0, .int .i64 0, .int .i64 0] 55))).alloc (Nat.le_refl _) _).block w.heap.size (by simp)).trans (heap_alloc_new w _))
  have R1 : Hid (((w.alloc (.cells #[.int .i64 0, .int .i64 0, .int .i64 0] 55)).alloc (.cells #[.int .i64 0, .int .i64 0, .int .i64 0] 55)).heap[w.heap.size + 1]? = some (.cells #[.int .i64 0, .int .i64 0, .int .i64 0] 55 (0, 0))) := Lib.hid (by
    have := heap_alloc_new (w.alloc (.cells #[.int .i64 0, .int .i64 0, .int .i64 0] 55)) (.cells #[.int .i64 0, .int .i64 0, .int .i64 0] 55)
    rwa [show (w.alloc (.cells #[.int .i64 0, .int .i64 0, .int .i64 0] 55)).heap.size = w.heap.size + 1 by simp] at this)
  have HB : Hid (Below w.heap.size w ((w.alloc (.cells #[.int .i64 0, .int .i64 0, .int .i64 0] 55)).alloc (.cells #[.int .i64 0, .int .i64 0, .int .i64 0] 55))) := Lib.hid (((Below.refl _ w).alloc (Nat.le_refl _) _).alloc (by simp) _)
  obtain ⟨p, o, rfl, hp, -, -⟩ := hx 0 (by simp)
  have hx2 : ∀ j (hj : j < 1), w.cell? ⟨p, o + j, none⟩ = some (.int .i64 ([a][j]'(by simpa using hj))) := fun j hj => by
    obtain ⟨p2, o2, e2, -, hc, -⟩ := hx j (by simpa using hj)
    cases e2
    exact hc
  have hcp := run_copy_row (P := Try.prog) ((w.alloc (.cells #[.int .i64 0, .int .i64 0, .int .i64 0] 55)).alloc (.cells #[.int .i64 0, .int .i64 0, .int .i64 0] 55)) 22 22 3 2 (w.heap.size + 1) 2 1 1 ⟨p, o, none⟩ 1 cap #[.int .i64 0, .int .i64 0, .int .i64 0] 55 [.int .i64 a] Try.underlying22 infoI1 R1.out rfl (fun j u hj => by
      rw [add_at]
      have hpl : p < w.heap.size := Nat.lt_of_lt_of_le hp hB
      rw [HB.out.cell (p := ⟨p, o + j, none⟩) hpl]
      rcases j with _ | j
      all_goals first | (obtain rfl := Option.some.inj hj; exact hx2 _ (by omega)) | simp at hj) (by simp) (by simp [Value.oneCell'])
  have hcp2 : (Builtin.copy_ #[22, 22] 3 #[.slice (some ⟨w.heap.size + 1, 2, none⟩) 1 1, .slice (some ⟨p, o, none⟩) 1 cap]).run Try.prog ((w.alloc (.cells #[.int .i64 0, .int .i64 0, .int .i64 0] 55)).alloc (.cells #[.int .i64 0, .int .i64 0, .int .i64 0] 55)) = .ok (.int .i64 1) (((w.alloc (.cells #[.int .i64 0, .int .i64 0, .int .i64 0] 55)).alloc (.cells #[.int .i64 0, .int .i64 0, .int .i64 0] 55)).setRow (w.heap.size + 1) #[.int .i64 0, .int .i64 0, .int .i64 a]) := by
    have h := hcp
    simpa [goInt] using h
  clear hx hx2 hcp
  have RR1 : Hid ((((w.alloc (.cells #[.int .i64 0, .int .i64 0, .int .i64 0] 55)).alloc (.cells #[.int .i64 0, .int .i64 0, .int .i64 0] 55)).setRow (w.heap.size + 1) #[.int .i64 0, .int .i64 0, .int .i64 a]).heap[w.heap.size + 1]? = some (.cells #[.int .i64 0, .int .i64 0, .int .i64 a] 55 (0, 0))) := Lib.hid (setRow_heap _ _ _ _ _ _ R1.out)
  have RR0 : Hid ((((w.alloc (.cells #[.int .i64 0, .int .i64 0, .int .i64 0] 55)).alloc (.cells #[.int .i64 0, .int .i64 0, .int .i64 0] 55)).setRow (w.heap.size + 1) #[.int .i64 0, .int .i64 0, .int .i64 a]).heap[w.heap.size]? = some (.cells #[.int .i64 0, .int .i64 0, .int .i64 0] 55 (0, 0))) := Lib.hid ((setRow_other _ _ _ _ (by omega)).trans R0.out)
  have HBW : Hid (Below w.heap.size w (((w.alloc (.cells #[.int .i64 0, .int .i64 0, .int .i64 0] 55)).alloc (.cells #[.int .i64 0, .int .i64 0, .int .i64 0] 55)).setRow (w.heap.size + 1) #[.int .i64 0, .int .i64 0, .int .i64 a])) := Lib.hid (below_setRow HB.out (Nat.le_succ _) _)
  have Hld := Lib.hid (run_loadVar_row (P := Try.prog) _ (w.heap.size + 1) 55 55 _ (0, 0) _ RR1.out Try.underlying55 rfl (by kernel_rfl))
  go_enter Try.func64, Try.ntmps64
  go_wp2_with (first | (refine wpList_load_agg rfl 55 (.tmp 3) rfl _ rfl _ Hld.out ?_) | (refine wpList_store_row rfl 55 (.tmp 2) (.tmp 10) rfl w.heap.size #[.int .i64 0, .int .i64 0, .int .i64 a] rfl rfl 55 _ RR0.out (by kernel_rfl) rfl (by simp [Value.oneCell']) ?_))
  refine bodyPost_ret (v := .agg #[.int .i64 0, .int .i64 0, .int .i64 a]) ?_ rfl ?_
  · exact results_cell_row rfl _ _ w.heap.size 55 _ (0, 0) _ rfl (setRow_heap _ _ _ _ _ _ RR0.out) Try.underlying55 rfl (by kernel_rfl)
  · exact ⟨rfl, below_setRow HBW.out (Nat.le_refl _) _⟩
set_option maxHeartbeats 1000000 in
set_option maxRecDepth 100000 in
theorem placeAt_2 {B : Nat} {w : World} {v : Value} {a b : Int} (h : Ri B w v [a, b]) (hB : B ≤ w.heap.size) :
    Calls Try.prog 64 #[v] w (GivesB (.agg #[.int .i64 0, .int .i64 a, .int .i64 b]) w) := by
  obtain ⟨A, cap, rfl, -, -, hx⟩ := h
  have R0 : Hid (((w.alloc (.cells #[.int .i64 0, .int .i64 0, .int .i64 0] 55)).alloc (.cells #[.int .i64 0, .int .i64 0, .int .i64 0] 55)).heap[w.heap.size]? = some (.cells #[.int .i64 0, .int .i64 0, .int .i64 0] 55 (0, 0))) := Lib.hid ((((Below.refl (w.alloc (.cells #[.int .i64 0, .int .i64 0, .int .i64 0] 55)).heap.size (w.alloc (.cells #[.int .i64 0, .int .i64 0, .int .i64 0] 55))).alloc (Nat.le_refl _) _).block w.heap.size (by simp)).trans (heap_alloc_new w _))
  have R1 : Hid (((w.alloc (.cells #[.int .i64 0, .int .i64 0, .int .i64 0] 55)).alloc (.cells #[.int .i64 0, .int .i64 0, .int .i64 0] 55)).heap[w.heap.size + 1]? = some (.cells #[.int .i64 0, .int .i64 0, .int .i64 0] 55 (0, 0))) := Lib.hid (by
    have := heap_alloc_new (w.alloc (.cells #[.int .i64 0, .int .i64 0, .int .i64 0] 55)) (.cells #[.int .i64 0, .int .i64 0, .int .i64 0] 55)
    rwa [show (w.alloc (.cells #[.int .i64 0, .int .i64 0, .int .i64 0] 55)).heap.size = w.heap.size + 1 by simp] at this)
  have HB : Hid (Below w.heap.size w ((w.alloc (.cells #[.int .i64 0, .int .i64 0, .int .i64 0] 55)).alloc (.cells #[.int .i64 0, .int .i64 0, .int .i64 0] 55))) := Lib.hid (((Below.refl _ w).alloc (Nat.le_refl _) _).alloc (by simp) _)
  obtain ⟨p, o, rfl, hp, -, -⟩ := hx 0 (by simp)
  have hx2 : ∀ j (hj : j < 2), w.cell? ⟨p, o + j, none⟩ = some (.int .i64 ([a, b][j]'(by simpa using hj))) := fun j hj => by
    obtain ⟨p2, o2, e2, -, hc, -⟩ := hx j (by simpa using hj)
    cases e2
    exact hc
  have hcp := run_copy_row (P := Try.prog) ((w.alloc (.cells #[.int .i64 0, .int .i64 0, .int .i64 0] 55)).alloc (.cells #[.int .i64 0, .int .i64 0, .int .i64 0] 55)) 22 22 3 2 (w.heap.size + 1) 1 2 2 ⟨p, o, none⟩ 2 cap #[.int .i64 0, .int .i64 0, .int .i64 0] 55 [.int .i64 a, .int .i64 b] Try.underlying22 infoI1 R1.out rfl (fun j u hj => by
      rw [add_at]
      have hpl : p < w.heap.size := Nat.lt_of_lt_of_le hp hB
      rw [HB.out.cell (p := ⟨p, o + j, none⟩) hpl]
      rcases j with _ | _ | j
      all_goals first | (obtain rfl := Option.some.inj hj; exact hx2 _ (by omega)) | simp at hj) (by simp) (by simp [Value.oneCell'])
  have hcp2 : (Builtin.copy_ #[22, 22] 3 #[.slice (some ⟨w.heap.size + 1, 1, none⟩) 2 2, .slice (some ⟨p, o, none⟩) 2 cap]).run Try.prog ((w.alloc (.cells #[.int .i64 0, .int .i64 0, .int .i64 0] 55)).alloc (.cells #[.int .i64 0, .int .i64 0, .int .i64 0] 55)) = .ok (.int .i64 2) (((w.alloc (.cells #[.int .i64 0, .int .i64 0, .int .i64 0] 55)).alloc (.cells #[.int .i64 0, .int .i64 0, .int .i64 0] 55)).setRow (w.heap.size + 1) #[.int .i64 0, .int .i64 a, .int .i64 b]) := by
    have h := hcp
    simpa [goInt] using h
  clear hx hx2 hcp
  have RR1 : Hid ((((w.alloc (.cells #[.int .i64 0, .int .i64 0, .int .i64 0] 55)).alloc (.cells #[.int .i64 0, .int .i64 0, .int .i64 0] 55)).setRow (w.heap.size + 1) #[.int .i64 0, .int .i64 a, .int .i64 b]).heap[w.heap.size + 1]? = some (.cells #[.int .i64 0, .int .i64 a, .int .i64 b] 55 (0, 0))) := Lib.hid (setRow_heap _ _ _ _ _ _ R1.out)
  have RR0 : Hid ((((w.alloc (.cells #[.int .i64 0, .int .i64 0, .int .i64 0] 55)).alloc (.cells #[.int .i64 0, .int .i64 0, .int .i64 0] 55)).setRow (w.heap.size + 1) #[.int .i64 0, .int .i64 a, .int .i64 b]).heap[w.heap.size]? = some (.cells #[.int .i64 0, .int .i64 0, .int .i64 0] 55 (0, 0))) := Lib.hid ((setRow_other _ _ _ _ (by omega)).trans R0.out)
  have HBW : Hid (Below w.heap.size w (((w.alloc (.cells #[.int .i64 0, .int .i64 0, .int .i64 0] 55)).alloc (.cells #[.int .i64 0, .int .i64 0, .int .i64 0] 55)).setRow (w.heap.size + 1) #[.int .i64 0, .int .i64 a, .int .i64 b])) := Lib.hid (below_setRow HB.out (Nat.le_succ _) _)
  have Hld := Lib.hid (run_loadVar_row (P := Try.prog) _ (w.heap.size + 1) 55 55 _ (0, 0) _ RR1.out Try.underlying55 rfl (by kernel_rfl))
  go_enter Try.func64, Try.ntmps64
  go_wp2_with (first | (refine wpList_load_agg rfl 55 (.tmp 3) rfl _ rfl _ Hld.out ?_) | (refine wpList_store_row rfl 55 (.tmp 2) (.tmp 10) rfl w.heap.size #[.int .i64 0, .int .i64 a, .int .i64 b] rfl rfl 55 _ RR0.out (by kernel_rfl) rfl (by simp [Value.oneCell']) ?_))
  refine bodyPost_ret (v := .agg #[.int .i64 0, .int .i64 a, .int .i64 b]) ?_ rfl ?_
  · exact results_cell_row rfl _ _ w.heap.size 55 _ (0, 0) _ rfl (setRow_heap _ _ _ _ _ _ RR0.out) Try.underlying55 rfl (by kernel_rfl)
  · exact ⟨rfl, below_setRow HBW.out (Nat.le_refl _) _⟩
set_option maxHeartbeats 1000000 in
set_option maxRecDepth 100000 in
theorem placeAt_3 {B : Nat} {w : World} {v : Value} {a b c : Int} (h : Ri B w v [a, b, c]) (hB : B ≤ w.heap.size) :
    Calls Try.prog 64 #[v] w (GivesB (.agg #[.int .i64 a, .int .i64 b, .int .i64 c]) w) := by
  obtain ⟨A, cap, rfl, -, -, hx⟩ := h
  have R0 : Hid (((w.alloc (.cells #[.int .i64 0, .int .i64 0, .int .i64 0] 55)).alloc (.cells #[.int .i64 0, .int .i64 0, .int .i64 0] 55)).heap[w.heap.size]? = some (.cells #[.int .i64 0, .int .i64 0, .int .i64 0] 55 (0, 0))) := Lib.hid ((((Below.refl (w.alloc (.cells #[.int .i64 0, .int .i64 0, .int .i64 0] 55)).heap.size (w.alloc (.cells #[.int .i64 0, .int .i64 0, .int .i64 0] 55))).alloc (Nat.le_refl _) _).block w.heap.size (by simp)).trans (heap_alloc_new w _))
  have R1 : Hid (((w.alloc (.cells #[.int .i64 0, .int .i64 0, .int .i64 0] 55)).alloc (.cells #[.int .i64 0, .int .i64 0, .int .i64 0] 55)).heap[w.heap.size + 1]? = some (.cells #[.int .i64 0, .int .i64 0, .int .i64 0] 55 (0, 0))) := Lib.hid (by
    have := heap_alloc_new (w.alloc (.cells #[.int .i64 0, .int .i64 0, .int .i64 0] 55)) (.cells #[.int .i64 0, .int .i64 0, .int .i64 0] 55)
    rwa [show (w.alloc (.cells #[.int .i64 0, .int .i64 0, .int .i64 0] 55)).heap.size = w.heap.size + 1 by simp] at this)
  have HB : Hid (Below w.heap.size w ((w.alloc (.cells #[.int .i64 0, .int .i64 0, .int .i64 0] 55)).alloc (.cells #[.int .i64 0, .int .i64 0, .int .i64 0] 55))) := Lib.hid (((Below.refl _ w).alloc (Nat.le_refl _) _).alloc (by simp) _)
  obtain ⟨p, o, rfl, hp, -, -⟩ := hx 0 (by simp)
  have hx2 : ∀ j (hj : j < 3), w.cell? ⟨p, o + j, none⟩ = some (.int .i64 ([a, b, c][j]'(by simpa using hj))) := fun j hj => by
    obtain ⟨p2, o2, e2, -, hc, -⟩ := hx j (by simpa using hj)
    cases e2
    exact hc
  have hcp := run_copy_row (P := Try.prog) ((w.alloc (.cells #[.int .i64 0, .int .i64 0, .int .i64 0] 55)).alloc (.cells #[.int .i64 0, .int .i64 0, .int .i64 0] 55)) 22 22 3 2 (w.heap.size + 1) 0 3 3 ⟨p, o, none⟩ 3 cap #[.int .i64 0, .int .i64 0, .int .i64 0] 55 [.int .i64 a, .int .i64 b, .int .i64 c] Try.underlying22 infoI1 R1.out rfl (fun j u hj => by
      rw [add_at]
      have hpl : p < w.heap.size := Nat.lt_of_lt_of_le hp hB
      rw [HB.out.cell (p := ⟨p, o + j, none⟩) hpl]
      rcases j with _ | _ | _ | j
      all_goals first | (obtain rfl := Option.some.inj hj; exact hx2 _ (by omega)) | simp at hj) (by simp) (by simp [Value.oneCell'])
  have hcp2 : (Builtin.copy_ #[22, 22] 3 #[.slice (some ⟨w.heap.size + 1, 0, none⟩) 3 3, .slice (some ⟨p, o, none⟩) 3 cap]).run Try.prog ((w.alloc (.cells #[.int .i64 0, .int .i64 0, .int .i64 0] 55)).alloc (.cells #[.int .i64 0, .int .i64 0, .int .i64 0] 55)) = .ok (.int .i64 3) (((w.alloc (.cells #[.int .i64 0, .int .i64 0, .int .i64 0] 55)).alloc (.cells #[.int .i64 0, .int .i64 0, .int .i64 0] 55)).setRow (w.heap.size + 1) #[.int .i64 a, .int .i64 b, .int .i64 c]) := by
    have h := hcp
    simpa [goInt] using h
  clear hx hx2 hcp
  have RR1 : Hid ((((w.alloc (.cells #[.int .i64 0, .int .i64 0, .int .i64 0] 55)).alloc (.cells #[.int .i64 0, .int .i64 0, .int .i64 0] 55)).setRow (w.heap.size + 1) #[.int .i64 a, .int .i64 b, .int .i64 c]).heap[w.heap.size + 1]? = some (.cells #[.int .i64 a, .int .i64 b, .int .i64 c] 55 (0, 0))) := Lib.hid (setRow_heap _ _ _ _ _ _ R1.out)
  have RR0 : Hid ((((w.alloc (.cells #[.int .i64 0, .int .i64 0, .int .i64 0] 55)).alloc (.cells #[.int .i64 0, .int .i64 0, .int .i64 0] 55)).setRow (w.heap.size + 1) #[.int .i64 a, .int .i64 b, .int .i64 c]).heap[w.heap.size]? = some (.cells #[.int .i64 0, .int .i64 0, .int .i64 0] 55 (0, 0))) := Lib.hid ((setRow_other _ _ _ _ (by omega)).trans R0.out)
  have HBW : Hid (Below w.heap.size w (((w.alloc (.cells #[.int .i64 0, .int .i64 0, .int .i64 0] 55)).alloc (.cells #[.int .i64 0, .int .i64 0, .int .i64 0] 55)).setRow (w.heap.size + 1) #[.int .i64 a, .int .i64 b, .int .i64 c])) := Lib.hid (below_setRow HB.out (Nat.le_succ _) _)
  have Hld := Lib.hid (run_loadVar_row (P := Try.prog) _ (w.heap.size + 1) 55 55 _ (0, 0) _ RR1.out Try.underlying55 rfl (by kernel_rfl))
  go_enter Try.func64, Try.ntmps64
  go_wp2_with (first | (refine wpList_load_agg rfl 55 (.tmp 3) rfl _ rfl _ Hld.out ?_) | (refine wpList_store_row rfl 55 (.tmp 2) (.tmp 10) rfl w.heap.size #[.int .i64 a, .int .i64 b, .int .i64 c] rfl rfl 55 _ RR0.out (by kernel_rfl) rfl (by simp [Value.oneCell']) ?_))
  refine bodyPost_ret (v := .agg #[.int .i64 a, .int .i64 b, .int .i64 c]) ?_ rfl ?_
  · exact results_cell_row rfl _ _ w.heap.size 55 _ (0, 0) _ rfl (setRow_heap _ _ _ _ _ _ RR0.out) Try.underlying55 rfl (by kernel_rfl)
  · exact ⟨rfl, below_setRow HBW.out (Nat.le_refl _) _⟩
theorem placeAt_any {B : Nat} {w : World} {v : Value} {xs : List Int} (h : Ri B w v xs) (hB : B ≤ w.heap.size) (hl : xs.length ≤ 3) : Calls Try.prog 64 #[v] w (GivesB (aggI (pad3 xs)) w) := by
  rcases xs with _ | ⟨a, _ | ⟨b, _ | ⟨c, _ | ⟨d, t⟩⟩⟩⟩
  · exact placeAt_0 h hB
  · exact placeAt_1 h hB
  · exact placeAt_2 h hB
  · exact placeAt_3 h hB
  · exact absurd hl (by simp)
end Go.Proofs.Ytmghbgnalkkppaa
