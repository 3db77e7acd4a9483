/- The superblock in one of the two blocks: the program. No statement is proved here. -/
import Derived.Test.YtlickjmdlooapaaChC
import Derived.Test.YtlickjmdlooapaaDcD
import Derived.Test.YtlickjmdlooapaaCts
import Derived.Test.YtlickjmdlooapaaHeld
namespace Go.Proofs.Ytlickjmdlooapaa
open Go.RowKit
set_option linter.unusedVariables false
theorem row_partS {w : World} {b o : Nat} {C : Array Value} {t : TypeId} {cs : List Value} (h : w.heap[b]? = some (.cells C t (0, 0))) (hs : ∀ (j : Nat) (u : Value), cs[j]? = some u → C[o + j]? = some u) : ∀ (j : Nat) (u : Value), cs[j]? = some u → w.cell? ⟨b, o + j, none⟩ = some u := fun j u hj => by rw [cell_of_row _ _ _ _ _ _ h]; exact hs j u hj
set_option maxHeartbeats 1000000 in
theorem slotBlock_any (x0 x1 x2 x3 : Int) (w : World) (h0 : 0 ≤ x3) (h1 : x3 < 9223372036854775808) :
    Calls Try.prog 195 #[.agg #[.int .i64 x0, .int .i64 x1, .int .i64 x2, .int .i64 x3]] w (GivesB (.int .i64 (x3 % 2)) w) := by
  have Hb0 : Hid (Below w.heap.size w (w.alloc (.cells #[.int .i64 x0, .int .i64 x1, .int .i64 x2, .int .i64 x3] 39))) := Lib.hid ((Below.refl _ w).alloc (Nat.le_refl _) _)
  go_enter Try.func195, Try.ntmps195
  go_wp2_with fail
  go_ret
  exact ⟨by first | rfl | simp, Hb0.out⟩
set_option maxHeartbeats 4000000 in
set_option maxRecDepth 100000 in
theorem slotRead_any {B : Nat} {w : World} {v1 v2 : Value} {ss : List ByteArray} {ps : List Pt} {fz : Int} {off : Bool} {k : Nat} (hk2 : k < 2) (hk : k < ss.length) (hz : (rdB ss ps k).size = 64) (h1 : RiT B w v1 ss) (h2 : RiU B w v2 ps) (hB : B ≤ w.heap.size) :
    Calls Try.prog 134 #[.agg #[v1, v2, .int .i64 fz, .bool off, .int .i64 (k : Int)]] w (GivesB (.tuple #[.agg (slA ss ps k), .bool (slY ss ps k)]) w) := by
  have H1 := Lib.hid h1; obtain ⟨A1, c1, rfl, l1, m1, -⟩ := h1
  have H2 := Lib.hid h2; obtain ⟨A2, c2, rfl, -, -, -⟩ := h2
  unfold maxLen at m1
  have Hb0 : Hid (Below w.heap.size w ((w.alloc (.cells #[.slice A1 ss.length c1, .slice A2 ps.length c2, .int .i64 fz, .bool off, .int .i64 (k : Int)] 178)).alloc (.cells #[.int .i64 0, .int .i64 0, .int .i64 0, .int .i64 0] 39))) := Lib.hid (((Below.refl _ w).alloc (Nat.le_refl _) _).alloc (by simp) _)
  have D0 : Hid (((w.alloc (.cells #[.slice A1 ss.length c1, .slice A2 ps.length c2, .int .i64 fz, .bool off, .int .i64 (k : Int)] 178)).alloc (.cells #[.int .i64 0, .int .i64 0, .int .i64 0, .int .i64 0] 39)).heap[w.heap.size]? = some (.cells #[.slice A1 ss.length c1, .slice A2 ps.length c2, .int .i64 fz, .bool off, .int .i64 (k : Int)] 178 (0, 0))) := Lib.hid (heap_alloc2_old w _ _)
  have R0 : Hid (((w.alloc (.cells #[.slice A1 ss.length c1, .slice A2 ps.length c2, .int .i64 fz, .bool off, .int .i64 (k : Int)] 178)).alloc (.cells #[.int .i64 0, .int .i64 0, .int .i64 0, .int .i64 0] 39)).heap[w.heap.size + 1]? = some (.cells #[.int .i64 0, .int .i64 0, .int .i64 0, .int .i64 0] 39 (0, 0))) := Lib.hid (heap_alloc2_new w _ _)
  have Lt0 : Hid (w.heap.size + 1 < ((w.alloc (.cells #[.slice A1 ss.length c1, .slice A2 ps.length c2, .int .i64 fz, .bool off, .int .i64 (k : Int)] 178)).alloc (.cells #[.int .i64 0, .int .i64 0, .int .i64 0, .int .i64 0] 39)).heap.size) := Lib.hid (by simp)
  have Hld := Lib.hid (run_load_cells (P := Try.prog) ((w.alloc (.cells #[.slice A1 ss.length c1, .slice A2 ps.length c2, .int .i64 fz, .bool off, .int .i64 (k : Int)] 178)).alloc (.cells #[.int .i64 0, .int .i64 0, .int .i64 0, .int .i64 0] 39)) w.heap.size 0 38 _ [.slice A1 ss.length c1, .slice A2 ps.length c2, .int .i64 fz, .bool off] (row_partS D0.out (by intro j u hj; rcases j with _ | _ | _ | _ | j; all_goals first | exact hj | simp at hj)) Try.underlying38 rfl)
  have CR := Lib.hid (contentsOf_any (fz := fz) (off := off) (H1.out.at hB Hb0.out) (H2.out.at hB Hb0.out) (Nat.le_refl _) hk)
  have HY : Hid (slY ss ps k = (dcY (rdB ss ps k) && (decide (gV (rdB ss ps k) 5 2 = (ss.length : Int)) && decide (gV (rdB ss ps k) 17 8 % 2 = (k : Int))))) := Lib.hid rfl
  have HA : Hid (slA ss ps k = if slY ss ps k then #[.int .i64 (gV (rdB ss ps k) 5 2), .int .i64 (gV (rdB ss ps k) 7 2), .int .i64 (gV (rdB ss ps k) 9 8), .int .i64 (gV (rdB ss ps k) 17 8)] else #[.int .i64 0, .int .i64 0, .int .i64 0, .int .i64 0]) := Lib.hid rfl
  generalize slA ss ps k = RA at *
  generalize slY ss ps k = RY at *
  generalize rdB ss ps k = s at *
  have CD := Lib.hid (fun W => implDecodeSuper_any s (by omega) W)
  have I3 := Lib.hid (gV_in s 17 8)
  go_enter Try.func134, Try.ntmps134
  go_wp2_with (refine wpList_load_agg rfl 38 (.tmp 7) rfl _ rfl _ Hld.out ?_)
  clear Hld
  generalize ((w.alloc (.cells #[.slice A1 ss.length c1, .slice A2 ps.length c2, .int .i64 fz, .bool off, .int .i64 (k : Int)] 178)).alloc (.cells #[.int .i64 0, .int .i64 0, .int .i64 0, .int .i64 0] 39)) = w0 at *
  refine CR.out.mono ?_
  rintro e w1 ⟨rfl, g1⟩
  have G1 := Lib.hid g1; clear g1
  go_wp2_with fail
  refine (CD.out w1).mono ?_
  rintro e w2 ⟨rfl, g2⟩
  have G2 := Lib.hid (G1.out.trans (g2.mono G1.out.size)); clear g2 CD CR
  cases hy : dcY s
  · have Hf : Hid (RA = #[.int .i64 0, .int .i64 0, .int .i64 0, .int .i64 0] ∧ RY = false) := Lib.hid (by
      have h : RY = false := by rw [HY.out, hy]; rfl
      exact ⟨by rw [HA.out, h]; rfl, h⟩)
    rw [dcA_n hy]
    clear hy HA HY
    have G3 : Hid (Below w0.heap.size w0 (w2.alloc (.cells #[.int .i64 0, .int .i64 0, .int .i64 0, .int .i64 0] 39))) := Lib.hid (G2.out.alloc G2.out.size _)
    have S3 : Hid ((w2.alloc (.cells #[.int .i64 0, .int .i64 0, .int .i64 0, .int .i64 0] 39)).heap[w2.heap.size]? = some (.cells #[.int .i64 0, .int .i64 0, .int .i64 0, .int .i64 0] 39 (0, 0))) := Lib.hid (heap_alloc_new w2 _)
    have L3 : Hid (w2.heap.size < (w2.alloc (.cells #[.int .i64 0, .int .i64 0, .int .i64 0, .int .i64 0] 39)).heap.size) := Lib.hid (by simp)
    go_wp2
    generalize (w2.alloc (.cells #[.int .i64 0, .int .i64 0, .int .i64 0, .int .i64 0] 39)) = w3 at *
    generalize w2.heap.size = b at *
    have HS : Hid (∀ W, Below w3.heap.size w3 W → W.cell? ⟨b, 0, none⟩ = some (.int .i64 0) ∧ W.cell? ⟨b, 1, none⟩ = some (.int .i64 0) ∧ W.cell? ⟨b, 2, none⟩ = some (.int .i64 0) ∧ W.cell? ⟨b, 3, none⟩ = some (.int .i64 0) ∧ W.cell? ⟨w.heap.size, 0, none⟩ = some (.slice A1 ss.length c1) ∧ W.cell? ⟨w.heap.size, 4, none⟩ = some (.int .i64 (k : Int))) := Lib.hid (fun W hW => by
      have hb := (hW.block b L3.out).trans S3.out
      have hd := ((G3.out.trans (hW.mono G3.out.size)).block _ (by have := Lt0.out; omega)).trans D0.out
      exact ⟨by rw [cell_of_row _ _ _ _ _ _ hb]; rfl, by rw [cell_of_row _ _ _ _ _ _ hb]; rfl, by rw [cell_of_row _ _ _ _ _ _ hb]; rfl, by rw [cell_of_row _ _ _ _ _ _ hb]; rfl, by rw [cell_of_row _ _ _ _ _ _ hd]; rfl, by rw [cell_of_row _ _ _ _ _ _ hd]; rfl⟩)
    have k0 : Below w3.heap.size w3 w3.drew := (Below.refl _ _).drew
    refine wp_region_held_drew (S := (fun W => W.cell? ⟨b, 0, none⟩ = some (.int .i64 0) ∧ W.cell? ⟨b, 1, none⟩ = some (.int .i64 0) ∧ W.cell? ⟨b, 2, none⟩ = some (.int .i64 0) ∧ W.cell? ⟨b, 3, none⟩ = some (.int .i64 0) ∧ W.cell? ⟨w.heap.size, 0, none⟩ = some (.slice A1 ss.length c1) ∧ W.cell? ⟨w.heap.size, 4, none⟩ = some (.int .i64 (k : Int)))) (by kernel_rfl) (HS.out _ k0) (fun hHeld => ?_)
    refine held_yes 0 (some 15) rfl rfl (by kernel_rfl) (by kernel_rfl) (by kernel_rfl) (fun _ _ _ h => h) (by kernel_rfl) hHeld (v := ?_) (fun wz hSw => ?_) ?_
    rotate_left 1
    · (try dsimp only at hSw); go_simp; (try with_reducible rfl)
    try simp only [Act.put, List.setIfInBounds_toArray, List.set_cons_zero, List.set_cons_succ]
    refine held_yes 1 (some 16) rfl rfl (by kernel_rfl) (by kernel_rfl) (by kernel_rfl) (fun _ _ _ h => h) (by kernel_rfl) hHeld (v := ?_) (fun wz hSw => ?_) ?_
    rotate_left 1
    · (try dsimp only at hSw); go_simp; (try with_reducible rfl)
    try simp only [Act.put, List.setIfInBounds_toArray, List.set_cons_zero, List.set_cons_succ]
    refine held_yes 2 (some 17) rfl rfl (by kernel_rfl) (by kernel_rfl) (by kernel_rfl) (fun _ _ _ h => h) (by kernel_rfl) hHeld (v := ?_) (fun wz hSw => ?_) ?_
    rotate_left 1
    · (try dsimp only at hSw); go_simp; (try with_reducible rfl)
    try simp only [Act.put, List.setIfInBounds_toArray, List.set_cons_zero, List.set_cons_succ]
    refine held_no 3 (some 18) rfl rfl (by kernel_rfl) (by kernel_rfl) (by kernel_rfl) (fun _ _ _ h => h) (by kernel_rfl) hHeld ?_
    try simp only [Act.put, List.setIfInBounds_toArray, List.set_cons_zero, List.set_cons_succ]
    refine held_no 4 (some 19) rfl rfl (by kernel_rfl) (by kernel_rfl) (by kernel_rfl) (fun _ _ _ h => h) (by kernel_rfl) hHeld ?_
    try simp only [Act.put, List.setIfInBounds_toArray, List.set_cons_zero, List.set_cons_succ]
    refine held_no 5 (some 20) rfl rfl (by kernel_rfl) (by kernel_rfl) (by kernel_rfl) (fun _ _ _ h => h) (by kernel_rfl) hHeld ?_
    try simp only [Act.put, List.setIfInBounds_toArray, List.set_cons_zero, List.set_cons_succ]
    refine held_no 6 (some 21) rfl rfl (by kernel_rfl) (by kernel_rfl) (by kernel_rfl) (fun _ _ _ h => h) (by kernel_rfl) hHeld ?_
    try simp only [Act.put, List.setIfInBounds_toArray, List.set_cons_zero, List.set_cons_succ]
    refine held_no 7 (some 22) rfl rfl (by kernel_rfl) (by kernel_rfl) (by kernel_rfl) (fun _ _ _ h => h) (by kernel_rfl) hHeld ?_
    try simp only [Act.put, List.setIfInBounds_toArray, List.set_cons_zero, List.set_cons_succ]
    refine held_no 8 (some 23) rfl rfl (by kernel_rfl) (by kernel_rfl) (by kernel_rfl) (fun _ _ _ h => h) (by kernel_rfl) hHeld ?_
    try simp only [Act.put, List.setIfInBounds_toArray, List.set_cons_zero, List.set_cons_succ]
    refine held_no 9 (some 24) rfl rfl (by kernel_rfl) (by kernel_rfl) (by kernel_rfl) (fun _ _ _ h => h) (by kernel_rfl) hHeld ?_
    try simp only [Act.put, List.setIfInBounds_toArray, List.set_cons_zero, List.set_cons_succ]
    refine held_yes 10 (some 25) rfl rfl (by kernel_rfl) (by kernel_rfl) (by kernel_rfl) (fun _ _ _ h => h) (by kernel_rfl) hHeld (v := ?_) (fun wz hSw => ?_) ?_
    rotate_left 1
    · (try dsimp only at hSw); go_simp; (try with_reducible rfl)
    try simp only [Act.put, List.setIfInBounds_toArray, List.set_cons_zero, List.set_cons_succ]
    refine held_yes 11 (some 26) rfl rfl (by kernel_rfl) (by kernel_rfl) (by kernel_rfl) (fun _ _ _ h => h) (by kernel_rfl) hHeld (v := ?_) (fun wz hSw => ?_) ?_
    rotate_left 1
    · (try dsimp only at hSw); go_simp; (try with_reducible rfl)
    try simp only [Act.put, List.setIfInBounds_toArray, List.set_cons_zero, List.set_cons_succ]
    refine held_no 12 (some 27) rfl rfl (by kernel_rfl) (by kernel_rfl) (by kernel_rfl) (fun _ _ _ h => h) (by kernel_rfl) hHeld ?_
    try simp only [Act.put, List.setIfInBounds_toArray, List.set_cons_zero, List.set_cons_succ]
    refine held_no 14 (some 29) rfl rfl (by kernel_rfl) (by kernel_rfl) (by kernel_rfl) (fun _ _ _ h => h) (by kernel_rfl) hHeld ?_
    try simp only [Act.put, List.setIfInBounds_toArray, List.set_cons_zero, List.set_cons_succ]
    refine held_no 15 (some 30) rfl rfl (by kernel_rfl) (by kernel_rfl) (by kernel_rfl) (fun _ _ _ h => h) (by kernel_rfl) hHeld ?_
    try simp only [Act.put, List.setIfInBounds_toArray, List.set_cons_zero, List.set_cons_succ]
    refine held_no 13 (some 28) rfl rfl (by kernel_rfl) (by kernel_rfl) (by kernel_rfl) (fun _ _ _ h => h) (by kernel_rfl) hHeld ?_
    try simp only [Act.put, List.setIfInBounds_toArray, List.set_cons_zero, List.set_cons_succ]
    refine held_no 16 (some 31) rfl rfl (by kernel_rfl) (by kernel_rfl) (by kernel_rfl) (fun _ _ _ h => h) (by kernel_rfl) hHeld ?_
    try simp only [Act.put, List.setIfInBounds_toArray, List.set_cons_zero, List.set_cons_succ]
    refine held_yes 17 (some 32) rfl rfl (by kernel_rfl) (by kernel_rfl) (by kernel_rfl) (fun _ _ _ h => h) (by kernel_rfl) hHeld (v := ?_) (fun wz hSw => ?_) ?_
    rotate_left 1
    · (try dsimp only at hSw); go_simp; (try with_reducible rfl)
    try simp only [Act.put, List.setIfInBounds_toArray, List.set_cons_zero, List.set_cons_succ]
    refine wpAnyH_done (by kernel_rfl) ?_ _
    try simp only [Exit.then]
    have R4 := Lib.hid (((G3.out.trans (k0.mono G3.out.size)).block _ Lt0.out).trans R0.out)
    have B4 := Lib.hid (Hb0.out.trans ((G3.out.trans (k0.mono G3.out.size)).mono Hb0.out.size))
    clear k0
    go_wp2_with (refine wpList_store_row rfl 39 (.tmp 2) (.tmp 33) rfl (w.heap.size + 1) #[.int .i64 0, .int .i64 0, .int .i64 0, .int .i64 0] rfl rfl 39 _ R4.out (infoS4 _ _ _ _) rfl oneS4 ?_)
    refine bodyPost_ret (v := .tuple #[.agg #[.int .i64 0, .int .i64 0, .int .i64 0, .int .i64 0], .bool false]) ?_ rfl ?_
    · exact results_cell_row2 rfl _ _ (w.heap.size + 1) 39 _ (0, 0) _ _ rfl rfl (setRow_heap _ _ _ _ _ _ R4.out) Try.underlying39 rfl (by kernel_rfl)
    · exact ⟨by rw [Hf.out.1, Hf.out.2], below_setRow B4.out (Nat.le_succ _) _⟩
  have HA2 : Hid (RY = (decide (gV s 5 2 = (ss.length : Int)) && decide (gV s 17 8 % 2 = (k : Int)))) := Lib.hid (by rw [HY.out, hy]; rfl)
  rw [dcA_y hy]
  clear hy HY
  generalize gV s 5 2 = x0 at *
  generalize gV s 7 2 = x1 at *
  generalize gV s 9 8 = x2 at *
  generalize gV s 17 8 = x3 at *
  by_cases e0 : x0 = (ss.length : Int)
  rotate_left
  · have Hf : Hid (RA = #[.int .i64 0, .int .i64 0, .int .i64 0, .int .i64 0] ∧ RY = false) := Lib.hid (by
      have h : RY = false := by rw [HA2.out, decide_eq_false e0]; rfl
      exact ⟨by rw [HA.out, h]; rfl, h⟩)
    have n0 : (x0 != (ss.length : Int)) = true := by simpa using e0
    clear HA HA2 e0
    have G3 : Hid (Below w0.heap.size w0 (w2.alloc (.cells #[.int .i64 x0, .int .i64 x1, .int .i64 x2, .int .i64 x3] 39))) := Lib.hid (G2.out.alloc G2.out.size _)
    have S3 : Hid ((w2.alloc (.cells #[.int .i64 x0, .int .i64 x1, .int .i64 x2, .int .i64 x3] 39)).heap[w2.heap.size]? = some (.cells #[.int .i64 x0, .int .i64 x1, .int .i64 x2, .int .i64 x3] 39 (0, 0))) := Lib.hid (heap_alloc_new w2 _)
    have L3 : Hid (w2.heap.size < (w2.alloc (.cells #[.int .i64 x0, .int .i64 x1, .int .i64 x2, .int .i64 x3] 39)).heap.size) := Lib.hid (by simp)
    go_wp2
    generalize (w2.alloc (.cells #[.int .i64 x0, .int .i64 x1, .int .i64 x2, .int .i64 x3] 39)) = w3 at *
    generalize w2.heap.size = b at *
    have HS : Hid (∀ W, Below w3.heap.size w3 W → W.cell? ⟨b, 0, none⟩ = some (.int .i64 x0) ∧ W.cell? ⟨b, 1, none⟩ = some (.int .i64 x1) ∧ W.cell? ⟨b, 2, none⟩ = some (.int .i64 x2) ∧ W.cell? ⟨b, 3, none⟩ = some (.int .i64 x3) ∧ W.cell? ⟨w.heap.size, 0, none⟩ = some (.slice A1 ss.length c1) ∧ W.cell? ⟨w.heap.size, 4, none⟩ = some (.int .i64 (k : Int))) := Lib.hid (fun W hW => by
      have hb := (hW.block b L3.out).trans S3.out
      have hd := ((G3.out.trans (hW.mono G3.out.size)).block _ (by have := Lt0.out; omega)).trans D0.out
      exact ⟨by rw [cell_of_row _ _ _ _ _ _ hb]; rfl, by rw [cell_of_row _ _ _ _ _ _ hb]; rfl, by rw [cell_of_row _ _ _ _ _ _ hb]; rfl, by rw [cell_of_row _ _ _ _ _ _ hb]; rfl, by rw [cell_of_row _ _ _ _ _ _ hd]; rfl, by rw [cell_of_row _ _ _ _ _ _ hd]; rfl⟩)
    have k0 : Below w3.heap.size w3 w3.drew := (Below.refl _ _).drew
    refine wp_region_held_drew (S := (fun W => W.cell? ⟨b, 0, none⟩ = some (.int .i64 x0) ∧ W.cell? ⟨b, 1, none⟩ = some (.int .i64 x1) ∧ W.cell? ⟨b, 2, none⟩ = some (.int .i64 x2) ∧ W.cell? ⟨b, 3, none⟩ = some (.int .i64 x3) ∧ W.cell? ⟨w.heap.size, 0, none⟩ = some (.slice A1 ss.length c1) ∧ W.cell? ⟨w.heap.size, 4, none⟩ = some (.int .i64 (k : Int)))) (by kernel_rfl) (HS.out _ k0) (fun hHeld => ?_)
    refine held_yes 0 (some 15) rfl rfl (by kernel_rfl) (by kernel_rfl) (by kernel_rfl) (fun _ _ _ h => h) (by kernel_rfl) hHeld (v := ?_) (fun wz hSw => ?_) ?_
    rotate_left 1
    · (try dsimp only at hSw); go_simp; (try with_reducible rfl)
    try simp only [Act.put, List.setIfInBounds_toArray, List.set_cons_zero, List.set_cons_succ]
    refine held_yes 1 (some 16) rfl rfl (by kernel_rfl) (by kernel_rfl) (by kernel_rfl) (fun _ _ _ h => h) (by kernel_rfl) hHeld (v := ?_) (fun wz hSw => ?_) ?_
    rotate_left 1
    · (try dsimp only at hSw); go_simp; (try with_reducible rfl)
    try simp only [Act.put, List.setIfInBounds_toArray, List.set_cons_zero, List.set_cons_succ]
    refine held_yes 2 (some 17) rfl rfl (by kernel_rfl) (by kernel_rfl) (by kernel_rfl) (fun _ _ _ h => h) (by kernel_rfl) hHeld (v := ?_) (fun wz hSw => ?_) ?_
    rotate_left 1
    · (try dsimp only at hSw); go_simp; (try with_reducible rfl)
    try simp only [Act.put, List.setIfInBounds_toArray, List.set_cons_zero, List.set_cons_succ]
    refine held_yes 3 (some 18) rfl rfl (by kernel_rfl) (by kernel_rfl) (by kernel_rfl) (fun _ _ _ h => h) (by kernel_rfl) hHeld (v := ?_) (fun wz hSw => ?_) ?_
    rotate_left 1
    · (try dsimp only at hSw); go_simp; (try with_reducible rfl)
    try simp only [Act.put, List.setIfInBounds_toArray, List.set_cons_zero, List.set_cons_succ]
    refine held_yes 4 (some 19) rfl rfl (by kernel_rfl) (by kernel_rfl) (by kernel_rfl) (fun _ _ _ h => h) (by kernel_rfl) hHeld (v := ?_) (fun wz hSw => ?_) ?_
    rotate_left 1
    · (try dsimp only at hSw); go_simp; (try with_reducible rfl)
    try simp only [Act.put, List.setIfInBounds_toArray, List.set_cons_zero, List.set_cons_succ]
    refine held_yes 5 (some 20) rfl rfl (by kernel_rfl) (by kernel_rfl) (by kernel_rfl) (fun _ _ _ h => h) (by kernel_rfl) hHeld (v := ?_) (fun wz hSw => ?_) ?_
    rotate_left 1
    · (try dsimp only at hSw); go_simp; (try with_reducible rfl)
    try simp only [Act.put, List.setIfInBounds_toArray, List.set_cons_zero, List.set_cons_succ]
    refine held_yes 6 (some 21) rfl rfl (by kernel_rfl) (by kernel_rfl) (by kernel_rfl) (fun _ _ _ h => h) (by kernel_rfl) hHeld (v := ?_) (fun wz hSw => ?_) ?_
    rotate_left 1
    · (try dsimp only at hSw); go_simp; (try with_reducible rfl)
    try simp only [Act.put, List.setIfInBounds_toArray, List.set_cons_zero, List.set_cons_succ]
    refine held_yes 7 (some 22) rfl rfl (by kernel_rfl) (by kernel_rfl) (by kernel_rfl) (fun _ _ _ h => h) (by kernel_rfl) hHeld (v := ?_) (fun wz hSw => ?_) ?_
    rotate_left 1
    · (try dsimp only at hSw); go_simp; (try with_reducible rfl)
    try simp only [Act.put, List.setIfInBounds_toArray, List.set_cons_zero, List.set_cons_succ]
    refine held_yes 8 (some 23) rfl rfl (by kernel_rfl) (by kernel_rfl) (by kernel_rfl) (fun _ _ _ h => h) (by kernel_rfl) hHeld (v := ?_) (fun wz hSw => ?_) ?_
    rotate_left 1
    · (try dsimp only at hSw); go_simp; (try with_reducible rfl)
    try simp only [Act.put, List.setIfInBounds_toArray, List.set_cons_zero, List.set_cons_succ]
    refine held_yes 9 (some 24) rfl rfl (by kernel_rfl) (by kernel_rfl) (by kernel_rfl) (fun _ _ _ h => h) (by kernel_rfl) hHeld (v := ?_) (fun wz hSw => ?_) ?_
    rotate_left 1
    · (try dsimp only at hSw); go_simp; (try with_reducible rfl)
    try simp only [Act.put, List.setIfInBounds_toArray, List.set_cons_zero, List.set_cons_succ]
    refine held_yes 10 (some 25) rfl rfl (by kernel_rfl) (by kernel_rfl) (by kernel_rfl) (fun _ _ _ h => h) (by kernel_rfl) hHeld (v := ?_) (fun wz hSw => ?_) ?_
    rotate_left 1
    · (try dsimp only at hSw); go_simp; (try with_reducible rfl)
    try simp only [Act.put, List.setIfInBounds_toArray, List.set_cons_zero, List.set_cons_succ]
    refine held_yes 11 (some 26) rfl rfl (by kernel_rfl) (by kernel_rfl) (by kernel_rfl) (fun _ _ _ h => h) (by kernel_rfl) hHeld (v := ?_) (fun wz hSw => ?_) ?_
    rotate_left 1
    · (try dsimp only at hSw); go_simp; (try with_reducible rfl)
    try simp only [Act.put, List.setIfInBounds_toArray, List.set_cons_zero, List.set_cons_succ]
    refine held_no 12 (some 27) rfl rfl (by kernel_rfl) (by kernel_rfl) (by kernel_rfl) (fun _ _ _ h => h) (by kernel_rfl) hHeld ?_
    try simp only [Act.put, List.setIfInBounds_toArray, List.set_cons_zero, List.set_cons_succ]
    refine held_no 14 (some 29) rfl rfl (by kernel_rfl) (by kernel_rfl) (by kernel_rfl) (fun _ _ _ h => h) (by kernel_rfl) hHeld ?_
    try simp only [Act.put, List.setIfInBounds_toArray, List.set_cons_zero, List.set_cons_succ]
    refine held_no 15 (some 30) rfl rfl (by kernel_rfl) (by kernel_rfl) (by kernel_rfl) (fun _ _ _ h => h) (by kernel_rfl) hHeld ?_
    try simp only [Act.put, List.setIfInBounds_toArray, List.set_cons_zero, List.set_cons_succ]
    refine held_no 13 (some 28) rfl rfl (by kernel_rfl) (by kernel_rfl) (by kernel_rfl) (fun _ _ _ h => h) (by kernel_rfl) hHeld ?_
    try simp only [Act.put, List.setIfInBounds_toArray, List.set_cons_zero, List.set_cons_succ]
    refine held_no 16 (some 31) rfl rfl (by kernel_rfl) (by kernel_rfl) (by kernel_rfl) (fun _ _ _ h => h) (by kernel_rfl) hHeld ?_
    try simp only [Act.put, List.setIfInBounds_toArray, List.set_cons_zero, List.set_cons_succ]
    refine held_yes 17 (some 32) rfl rfl (by kernel_rfl) (by kernel_rfl) (by kernel_rfl) (fun _ _ _ h => h) (by kernel_rfl) hHeld (v := ?_) (fun wz hSw => ?_) ?_
    rotate_left 1
    · (try dsimp only at hSw); go_simp; (try with_reducible rfl)
    try simp only [Act.put, List.setIfInBounds_toArray, List.set_cons_zero, List.set_cons_succ]
    refine wpAnyH_done (by kernel_rfl) ?_ _
    try simp only [Exit.then]
    have R4 := Lib.hid (((G3.out.trans (k0.mono G3.out.size)).block _ Lt0.out).trans R0.out)
    have B4 := Lib.hid (Hb0.out.trans ((G3.out.trans (k0.mono G3.out.size)).mono Hb0.out.size))
    clear k0
    go_wp2_with (refine wpList_store_row rfl 39 (.tmp 2) (.tmp 33) rfl (w.heap.size + 1) #[.int .i64 0, .int .i64 0, .int .i64 0, .int .i64 0] rfl rfl 39 _ R4.out (infoS4 _ _ _ _) rfl oneS4 ?_)
    refine bodyPost_ret (v := .tuple #[.agg #[.int .i64 0, .int .i64 0, .int .i64 0, .int .i64 0], .bool false]) ?_ rfl ?_
    · exact results_cell_row2 rfl _ _ (w.heap.size + 1) 39 _ (0, 0) _ _ rfl rfl (setRow_heap _ _ _ _ _ _ R4.out) Try.underlying39 rfl (by kernel_rfl)
    · exact ⟨by rw [Hf.out.1, Hf.out.2], below_setRow B4.out (Nat.le_succ _) _⟩
  by_cases e3 : x3 % 2 = (k : Int)
  rotate_left
  · have Hf : Hid (RA = #[.int .i64 0, .int .i64 0, .int .i64 0, .int .i64 0] ∧ RY = false) := Lib.hid (by
      have h : RY = false := by rw [HA2.out, decide_eq_false e3, Bool.and_false]
      exact ⟨by rw [HA.out, h]; rfl, h⟩)
    have n3 : (x3 % 2 != (k : Int)) = true := by simpa using e3
    subst e0
    clear HA HA2 e3
    have G3 : Hid (Below w0.heap.size w0 (w2.alloc (.cells #[.int .i64 (ss.length : Int), .int .i64 x1, .int .i64 x2, .int .i64 x3] 39))) := Lib.hid (G2.out.alloc G2.out.size _)
    have S3 : Hid ((w2.alloc (.cells #[.int .i64 (ss.length : Int), .int .i64 x1, .int .i64 x2, .int .i64 x3] 39)).heap[w2.heap.size]? = some (.cells #[.int .i64 (ss.length : Int), .int .i64 x1, .int .i64 x2, .int .i64 x3] 39 (0, 0))) := Lib.hid (heap_alloc_new w2 _)
    have L3 : Hid (w2.heap.size < (w2.alloc (.cells #[.int .i64 (ss.length : Int), .int .i64 x1, .int .i64 x2, .int .i64 x3] 39)).heap.size) := Lib.hid (by simp)
    go_wp2
    generalize (w2.alloc (.cells #[.int .i64 (ss.length : Int), .int .i64 x1, .int .i64 x2, .int .i64 x3] 39)) = w3 at *
    generalize w2.heap.size = b at *
    have HS : Hid (∀ W, Below w3.heap.size w3 W → W.cell? ⟨b, 0, none⟩ = some (.int .i64 (ss.length : Int)) ∧ W.cell? ⟨b, 1, none⟩ = some (.int .i64 x1) ∧ W.cell? ⟨b, 2, none⟩ = some (.int .i64 x2) ∧ W.cell? ⟨b, 3, none⟩ = some (.int .i64 x3) ∧ W.cell? ⟨w.heap.size, 0, none⟩ = some (.slice A1 ss.length c1) ∧ W.cell? ⟨w.heap.size, 4, none⟩ = some (.int .i64 (k : Int))) := Lib.hid (fun W hW => by
      have hb := (hW.block b L3.out).trans S3.out
      have hd := ((G3.out.trans (hW.mono G3.out.size)).block _ (by have := Lt0.out; omega)).trans D0.out
      exact ⟨by rw [cell_of_row _ _ _ _ _ _ hb]; rfl, by rw [cell_of_row _ _ _ _ _ _ hb]; rfl, by rw [cell_of_row _ _ _ _ _ _ hb]; rfl, by rw [cell_of_row _ _ _ _ _ _ hb]; rfl, by rw [cell_of_row _ _ _ _ _ _ hd]; rfl, by rw [cell_of_row _ _ _ _ _ _ hd]; rfl⟩)
    have k0 : Below w3.heap.size w3 w3.drew := (Below.refl _ _).drew
    refine wp_region_held_drew (S := (fun W => W.cell? ⟨b, 0, none⟩ = some (.int .i64 (ss.length : Int)) ∧ W.cell? ⟨b, 1, none⟩ = some (.int .i64 x1) ∧ W.cell? ⟨b, 2, none⟩ = some (.int .i64 x2) ∧ W.cell? ⟨b, 3, none⟩ = some (.int .i64 x3) ∧ W.cell? ⟨w.heap.size, 0, none⟩ = some (.slice A1 ss.length c1) ∧ W.cell? ⟨w.heap.size, 4, none⟩ = some (.int .i64 (k : Int)))) (by kernel_rfl) (HS.out _ k0) (fun hHeld => ?_)
    refine held_yes 0 (some 15) rfl rfl (by kernel_rfl) (by kernel_rfl) (by kernel_rfl) (fun _ _ _ h => h) (by kernel_rfl) hHeld (v := ?_) (fun wz hSw => ?_) ?_
    rotate_left 1
    · (try dsimp only at hSw); go_simp; (try with_reducible rfl)
    try simp only [Act.put, List.setIfInBounds_toArray, List.set_cons_zero, List.set_cons_succ]
    refine held_yes 1 (some 16) rfl rfl (by kernel_rfl) (by kernel_rfl) (by kernel_rfl) (fun _ _ _ h => h) (by kernel_rfl) hHeld (v := ?_) (fun wz hSw => ?_) ?_
    rotate_left 1
    · (try dsimp only at hSw); go_simp; (try with_reducible rfl)
    try simp only [Act.put, List.setIfInBounds_toArray, List.set_cons_zero, List.set_cons_succ]
    refine held_yes 2 (some 17) rfl rfl (by kernel_rfl) (by kernel_rfl) (by kernel_rfl) (fun _ _ _ h => h) (by kernel_rfl) hHeld (v := ?_) (fun wz hSw => ?_) ?_
    rotate_left 1
    · (try dsimp only at hSw); go_simp; (try with_reducible rfl)
    try simp only [Act.put, List.setIfInBounds_toArray, List.set_cons_zero, List.set_cons_succ]
    refine held_yes 3 (some 18) rfl rfl (by kernel_rfl) (by kernel_rfl) (by kernel_rfl) (fun _ _ _ h => h) (by kernel_rfl) hHeld (v := ?_) (fun wz hSw => ?_) ?_
    rotate_left 1
    · (try dsimp only at hSw); go_simp; (try with_reducible rfl)
    try simp only [Act.put, List.setIfInBounds_toArray, List.set_cons_zero, List.set_cons_succ]
    refine held_yes 4 (some 19) rfl rfl (by kernel_rfl) (by kernel_rfl) (by kernel_rfl) (fun _ _ _ h => h) (by kernel_rfl) hHeld (v := ?_) (fun wz hSw => ?_) ?_
    rotate_left 1
    · (try dsimp only at hSw); go_simp; (try with_reducible rfl)
    try simp only [Act.put, List.setIfInBounds_toArray, List.set_cons_zero, List.set_cons_succ]
    refine held_yes 5 (some 20) rfl rfl (by kernel_rfl) (by kernel_rfl) (by kernel_rfl) (fun _ _ _ h => h) (by kernel_rfl) hHeld (v := ?_) (fun wz hSw => ?_) ?_
    rotate_left 1
    · (try dsimp only at hSw); go_simp; (try with_reducible rfl)
    try simp only [Act.put, List.setIfInBounds_toArray, List.set_cons_zero, List.set_cons_succ]
    refine held_yes 6 (some 21) rfl rfl (by kernel_rfl) (by kernel_rfl) (by kernel_rfl) (fun _ _ _ h => h) (by kernel_rfl) hHeld (v := ?_) (fun wz hSw => ?_) ?_
    rotate_left 1
    · (try dsimp only at hSw); go_simp; (try with_reducible rfl)
    try simp only [Act.put, List.setIfInBounds_toArray, List.set_cons_zero, List.set_cons_succ]
    refine held_yes 7 (some 22) rfl rfl (by kernel_rfl) (by kernel_rfl) (by kernel_rfl) (fun _ _ _ h => h) (by kernel_rfl) hHeld (v := ?_) (fun wz hSw => ?_) ?_
    rotate_left 1
    · (try dsimp only at hSw); go_simp; (try with_reducible rfl)
    try simp only [Act.put, List.setIfInBounds_toArray, List.set_cons_zero, List.set_cons_succ]
    refine held_yes 8 (some 23) rfl rfl (by kernel_rfl) (by kernel_rfl) (by kernel_rfl) (fun _ _ _ h => h) (by kernel_rfl) hHeld (v := ?_) (fun wz hSw => ?_) ?_
    rotate_left 1
    · (try dsimp only at hSw); go_simp; (try with_reducible rfl)
    try simp only [Act.put, List.setIfInBounds_toArray, List.set_cons_zero, List.set_cons_succ]
    refine held_yes 9 (some 24) rfl rfl (by kernel_rfl) (by kernel_rfl) (by kernel_rfl) (fun _ _ _ h => h) (by kernel_rfl) hHeld (v := ?_) (fun wz hSw => ?_) ?_
    rotate_left 1
    · (try dsimp only at hSw); go_simp; (try with_reducible rfl)
    try simp only [Act.put, List.setIfInBounds_toArray, List.set_cons_zero, List.set_cons_succ]
    refine held_yes 10 (some 25) rfl rfl (by kernel_rfl) (by kernel_rfl) (by kernel_rfl) (fun _ _ _ h => h) (by kernel_rfl) hHeld (v := ?_) (fun wz hSw => ?_) ?_
    rotate_left 1
    · (try dsimp only at hSw); go_simp; (try with_reducible rfl)
    try simp only [Act.put, List.setIfInBounds_toArray, List.set_cons_zero, List.set_cons_succ]
    refine held_yes 11 (some 26) rfl rfl (by kernel_rfl) (by kernel_rfl) (by kernel_rfl) (fun _ _ _ h => h) (by kernel_rfl) hHeld (v := ?_) (fun wz hSw => ?_) ?_
    rotate_left 1
    · (try dsimp only at hSw); go_simp; (try with_reducible rfl)
    try simp only [Act.put, List.setIfInBounds_toArray, List.set_cons_zero, List.set_cons_succ]
    refine held_yes 12 (some 27) rfl rfl (by kernel_rfl) (by kernel_rfl) (by kernel_rfl) (fun _ _ _ h => h) (by kernel_rfl) hHeld (v := ?_) (fun wz hSw => ?_) ?_
    rotate_left 1
    · (try dsimp only at hSw); go_simp; (try with_reducible rfl)
    try simp only [Act.put, List.setIfInBounds_toArray, List.set_cons_zero, List.set_cons_succ]
    refine held_yes 14 (some 29) rfl rfl (by kernel_rfl) (by kernel_rfl) (by kernel_rfl) (fun _ _ _ h => h) (by kernel_rfl) hHeld (v := ?_) (fun wz hSw => ?_) ?_
    rotate_left 1
    · (try dsimp only at hSw); go_simp; (try with_reducible rfl)
    try simp only [Act.put, List.setIfInBounds_toArray, List.set_cons_zero, List.set_cons_succ]
    refine held_yes 15 (some 30) rfl rfl (by kernel_rfl) (by kernel_rfl) (by kernel_rfl) (fun _ _ _ h => h) (by kernel_rfl) hHeld (v := ?_) (fun wz hSw => ?_) ?_
    rotate_left 1
    · (try dsimp only at hSw); go_simp; (try with_reducible rfl)
    try simp only [Act.put, List.setIfInBounds_toArray, List.set_cons_zero, List.set_cons_succ]
    refine wpAnyH_ready (rs := [13]) (by kernel_rfl) (by simp) ?_
    refine AllReadyH.cons rfl (fun K hK => ?_) AllReadyH.nil
    go_simp
    (go_at_call 195; go_fit (slotBlock_any _ _ _ _ _ I3.out.1 I3.out.2); rintro e u1 ⟨rfl, ga⟩; have kb1 : Below w3.heap.size w3 u1 := k0.trans (ga.mono k0.size); clear ga)
    refine hK.out _ _ (HS.out _ kb1) (fun hHeld => ?_)
    clear hK K
    try simp only [Act.put, List.setIfInBounds_toArray, List.set_cons_zero, List.set_cons_succ]
    refine held_yes 16 (some 31) rfl rfl (by kernel_rfl) (by kernel_rfl) (by kernel_rfl) (fun _ _ _ h => h) (by kernel_rfl) hHeld (v := ?_) (fun wz hSw => ?_) ?_
    rotate_left 1
    · (try dsimp only at hSw); go_simp; (try with_reducible rfl)
    try simp only [Act.put, List.setIfInBounds_toArray, List.set_cons_zero, List.set_cons_succ]
    refine held_yes 17 (some 32) rfl rfl (by kernel_rfl) (by kernel_rfl) (by kernel_rfl) (fun _ _ _ h => h) (by kernel_rfl) hHeld (v := ?_) (fun wz hSw => ?_) ?_
    rotate_left 1
    · (try dsimp only at hSw); go_simp; (try with_reducible rfl)
    try simp only [Act.put, List.setIfInBounds_toArray, List.set_cons_zero, List.set_cons_succ]
    refine wpAnyH_done (by kernel_rfl) ?_ _
    try simp only [Exit.then]
    have R4 := Lib.hid (((G3.out.trans (kb1.mono G3.out.size)).block _ Lt0.out).trans R0.out)
    have B4 := Lib.hid (Hb0.out.trans ((G3.out.trans (kb1.mono G3.out.size)).mono Hb0.out.size))
    clear kb1 k0
    go_wp2_with (refine wpList_store_row rfl 39 (.tmp 2) (.tmp 33) rfl (w.heap.size + 1) #[.int .i64 0, .int .i64 0, .int .i64 0, .int .i64 0] rfl rfl 39 _ R4.out (infoS4 _ _ _ _) rfl oneS4 ?_)
    refine bodyPost_ret (v := .tuple #[.agg #[.int .i64 0, .int .i64 0, .int .i64 0, .int .i64 0], .bool false]) ?_ rfl ?_
    · exact results_cell_row2 rfl _ _ (w.heap.size + 1) 39 _ (0, 0) _ _ rfl rfl (setRow_heap _ _ _ _ _ _ R4.out) Try.underlying39 rfl (by kernel_rfl)
    · exact ⟨by rw [Hf.out.1, Hf.out.2], below_setRow B4.out (Nat.le_succ _) _⟩
  have Hf : Hid (RA = #[.int .i64 x0, .int .i64 x1, .int .i64 x2, .int .i64 x3] ∧ RY = true) := Lib.hid (by
    have h : RY = true := by rw [HA2.out, decide_eq_true e0, decide_eq_true e3]; rfl
    exact ⟨by rw [HA.out, h]; rfl, h⟩)
  have n3 : (x3 % 2 != (k : Int)) = false := by simpa using e3
  subst e0
  clear HA HA2 e3
  have G3 : Hid (Below w0.heap.size w0 (w2.alloc (.cells #[.int .i64 (ss.length : Int), .int .i64 x1, .int .i64 x2, .int .i64 x3] 39))) := Lib.hid (G2.out.alloc G2.out.size _)
  have S3 : Hid ((w2.alloc (.cells #[.int .i64 (ss.length : Int), .int .i64 x1, .int .i64 x2, .int .i64 x3] 39)).heap[w2.heap.size]? = some (.cells #[.int .i64 (ss.length : Int), .int .i64 x1, .int .i64 x2, .int .i64 x3] 39 (0, 0))) := Lib.hid (heap_alloc_new w2 _)
  have L3 : Hid (w2.heap.size < (w2.alloc (.cells #[.int .i64 (ss.length : Int), .int .i64 x1, .int .i64 x2, .int .i64 x3] 39)).heap.size) := Lib.hid (by simp)
  go_wp2
  generalize (w2.alloc (.cells #[.int .i64 (ss.length : Int), .int .i64 x1, .int .i64 x2, .int .i64 x3] 39)) = w3 at *
  generalize w2.heap.size = b at *
  have HS : Hid (∀ W, Below w3.heap.size w3 W → W.cell? ⟨b, 0, none⟩ = some (.int .i64 (ss.length : Int)) ∧ W.cell? ⟨b, 1, none⟩ = some (.int .i64 x1) ∧ W.cell? ⟨b, 2, none⟩ = some (.int .i64 x2) ∧ W.cell? ⟨b, 3, none⟩ = some (.int .i64 x3) ∧ W.cell? ⟨w.heap.size, 0, none⟩ = some (.slice A1 ss.length c1) ∧ W.cell? ⟨w.heap.size, 4, none⟩ = some (.int .i64 (k : Int))) := Lib.hid (fun W hW => by
    have hb := (hW.block b L3.out).trans S3.out
    have hd := ((G3.out.trans (hW.mono G3.out.size)).block _ (by have := Lt0.out; omega)).trans D0.out
    exact ⟨by rw [cell_of_row _ _ _ _ _ _ hb]; rfl, by rw [cell_of_row _ _ _ _ _ _ hb]; rfl, by rw [cell_of_row _ _ _ _ _ _ hb]; rfl, by rw [cell_of_row _ _ _ _ _ _ hb]; rfl, by rw [cell_of_row _ _ _ _ _ _ hd]; rfl, by rw [cell_of_row _ _ _ _ _ _ hd]; rfl⟩)
  have k0 : Below w3.heap.size w3 w3.drew := (Below.refl _ _).drew
  refine wp_region_held_drew (S := (fun W => W.cell? ⟨b, 0, none⟩ = some (.int .i64 (ss.length : Int)) ∧ W.cell? ⟨b, 1, none⟩ = some (.int .i64 x1) ∧ W.cell? ⟨b, 2, none⟩ = some (.int .i64 x2) ∧ W.cell? ⟨b, 3, none⟩ = some (.int .i64 x3) ∧ W.cell? ⟨w.heap.size, 0, none⟩ = some (.slice A1 ss.length c1) ∧ W.cell? ⟨w.heap.size, 4, none⟩ = some (.int .i64 (k : Int)))) (by kernel_rfl) (HS.out _ k0) (fun hHeld => ?_)
  refine held_yes 0 (some 15) rfl rfl (by kernel_rfl) (by kernel_rfl) (by kernel_rfl) (fun _ _ _ h => h) (by kernel_rfl) hHeld (v := ?_) (fun wz hSw => ?_) ?_
  rotate_left 1
  · (try dsimp only at hSw); go_simp; (try with_reducible rfl)
  try simp only [Act.put, List.setIfInBounds_toArray, List.set_cons_zero, List.set_cons_succ]
  refine held_yes 1 (some 16) rfl rfl (by kernel_rfl) (by kernel_rfl) (by kernel_rfl) (fun _ _ _ h => h) (by kernel_rfl) hHeld (v := ?_) (fun wz hSw => ?_) ?_
  rotate_left 1
  · (try dsimp only at hSw); go_simp; (try with_reducible rfl)
  try simp only [Act.put, List.setIfInBounds_toArray, List.set_cons_zero, List.set_cons_succ]
  refine held_yes 2 (some 17) rfl rfl (by kernel_rfl) (by kernel_rfl) (by kernel_rfl) (fun _ _ _ h => h) (by kernel_rfl) hHeld (v := ?_) (fun wz hSw => ?_) ?_
  rotate_left 1
  · (try dsimp only at hSw); go_simp; (try with_reducible rfl)
  try simp only [Act.put, List.setIfInBounds_toArray, List.set_cons_zero, List.set_cons_succ]
  refine held_yes 3 (some 18) rfl rfl (by kernel_rfl) (by kernel_rfl) (by kernel_rfl) (fun _ _ _ h => h) (by kernel_rfl) hHeld (v := ?_) (fun wz hSw => ?_) ?_
  rotate_left 1
  · (try dsimp only at hSw); go_simp; (try with_reducible rfl)
  try simp only [Act.put, List.setIfInBounds_toArray, List.set_cons_zero, List.set_cons_succ]
  refine held_yes 4 (some 19) rfl rfl (by kernel_rfl) (by kernel_rfl) (by kernel_rfl) (fun _ _ _ h => h) (by kernel_rfl) hHeld (v := ?_) (fun wz hSw => ?_) ?_
  rotate_left 1
  · (try dsimp only at hSw); go_simp; (try with_reducible rfl)
  try simp only [Act.put, List.setIfInBounds_toArray, List.set_cons_zero, List.set_cons_succ]
  refine held_yes 5 (some 20) rfl rfl (by kernel_rfl) (by kernel_rfl) (by kernel_rfl) (fun _ _ _ h => h) (by kernel_rfl) hHeld (v := ?_) (fun wz hSw => ?_) ?_
  rotate_left 1
  · (try dsimp only at hSw); go_simp; (try with_reducible rfl)
  try simp only [Act.put, List.setIfInBounds_toArray, List.set_cons_zero, List.set_cons_succ]
  refine held_yes 6 (some 21) rfl rfl (by kernel_rfl) (by kernel_rfl) (by kernel_rfl) (fun _ _ _ h => h) (by kernel_rfl) hHeld (v := ?_) (fun wz hSw => ?_) ?_
  rotate_left 1
  · (try dsimp only at hSw); go_simp; (try with_reducible rfl)
  try simp only [Act.put, List.setIfInBounds_toArray, List.set_cons_zero, List.set_cons_succ]
  refine held_yes 7 (some 22) rfl rfl (by kernel_rfl) (by kernel_rfl) (by kernel_rfl) (fun _ _ _ h => h) (by kernel_rfl) hHeld (v := ?_) (fun wz hSw => ?_) ?_
  rotate_left 1
  · (try dsimp only at hSw); go_simp; (try with_reducible rfl)
  try simp only [Act.put, List.setIfInBounds_toArray, List.set_cons_zero, List.set_cons_succ]
  refine held_yes 8 (some 23) rfl rfl (by kernel_rfl) (by kernel_rfl) (by kernel_rfl) (fun _ _ _ h => h) (by kernel_rfl) hHeld (v := ?_) (fun wz hSw => ?_) ?_
  rotate_left 1
  · (try dsimp only at hSw); go_simp; (try with_reducible rfl)
  try simp only [Act.put, List.setIfInBounds_toArray, List.set_cons_zero, List.set_cons_succ]
  refine held_yes 9 (some 24) rfl rfl (by kernel_rfl) (by kernel_rfl) (by kernel_rfl) (fun _ _ _ h => h) (by kernel_rfl) hHeld (v := ?_) (fun wz hSw => ?_) ?_
  rotate_left 1
  · (try dsimp only at hSw); go_simp; (try with_reducible rfl)
  try simp only [Act.put, List.setIfInBounds_toArray, List.set_cons_zero, List.set_cons_succ]
  refine held_yes 10 (some 25) rfl rfl (by kernel_rfl) (by kernel_rfl) (by kernel_rfl) (fun _ _ _ h => h) (by kernel_rfl) hHeld (v := ?_) (fun wz hSw => ?_) ?_
  rotate_left 1
  · (try dsimp only at hSw); go_simp; (try with_reducible rfl)
  try simp only [Act.put, List.setIfInBounds_toArray, List.set_cons_zero, List.set_cons_succ]
  refine held_yes 11 (some 26) rfl rfl (by kernel_rfl) (by kernel_rfl) (by kernel_rfl) (fun _ _ _ h => h) (by kernel_rfl) hHeld (v := ?_) (fun wz hSw => ?_) ?_
  rotate_left 1
  · (try dsimp only at hSw); go_simp; (try with_reducible rfl)
  try simp only [Act.put, List.setIfInBounds_toArray, List.set_cons_zero, List.set_cons_succ]
  refine held_yes 12 (some 27) rfl rfl (by kernel_rfl) (by kernel_rfl) (by kernel_rfl) (fun _ _ _ h => h) (by kernel_rfl) hHeld (v := ?_) (fun wz hSw => ?_) ?_
  rotate_left 1
  · (try dsimp only at hSw); go_simp; (try with_reducible rfl)
  try simp only [Act.put, List.setIfInBounds_toArray, List.set_cons_zero, List.set_cons_succ]
  refine held_yes 14 (some 29) rfl rfl (by kernel_rfl) (by kernel_rfl) (by kernel_rfl) (fun _ _ _ h => h) (by kernel_rfl) hHeld (v := ?_) (fun wz hSw => ?_) ?_
  rotate_left 1
  · (try dsimp only at hSw); go_simp; (try with_reducible rfl)
  try simp only [Act.put, List.setIfInBounds_toArray, List.set_cons_zero, List.set_cons_succ]
  refine held_yes 15 (some 30) rfl rfl (by kernel_rfl) (by kernel_rfl) (by kernel_rfl) (fun _ _ _ h => h) (by kernel_rfl) hHeld (v := ?_) (fun wz hSw => ?_) ?_
  rotate_left 1
  · (try dsimp only at hSw); go_simp; (try with_reducible rfl)
  try simp only [Act.put, List.setIfInBounds_toArray, List.set_cons_zero, List.set_cons_succ]
  refine wpAnyH_ready (rs := [13]) (by kernel_rfl) (by simp) ?_
  refine AllReadyH.cons rfl (fun K hK => ?_) AllReadyH.nil
  go_simp
  (go_at_call 195; go_fit (slotBlock_any _ _ _ _ _ I3.out.1 I3.out.2); rintro e u1 ⟨rfl, ga⟩; have kb1 : Below w3.heap.size w3 u1 := k0.trans (ga.mono k0.size); clear ga)
  refine hK.out _ _ (HS.out _ kb1) (fun hHeld => ?_)
  clear hK K
  try simp only [Act.put, List.setIfInBounds_toArray, List.set_cons_zero, List.set_cons_succ]
  refine held_yes 16 (some 31) rfl rfl (by kernel_rfl) (by kernel_rfl) (by kernel_rfl) (fun _ _ _ h => h) (by kernel_rfl) hHeld (v := ?_) (fun wz hSw => ?_) ?_
  rotate_left 1
  · (try dsimp only at hSw); go_simp; (try with_reducible rfl)
  try simp only [Act.put, List.setIfInBounds_toArray, List.set_cons_zero, List.set_cons_succ]
  refine held_yes 17 (some 32) rfl rfl (by kernel_rfl) (by kernel_rfl) (by kernel_rfl) (fun _ _ _ h => h) (by kernel_rfl) hHeld (v := ?_) (fun wz hSw => ?_) ?_
  rotate_left 1
  · (try dsimp only at hSw); go_simp; (try with_reducible rfl)
  try simp only [Act.put, List.setIfInBounds_toArray, List.set_cons_zero, List.set_cons_succ]
  refine wpAnyH_done (by kernel_rfl) ?_ _
  try simp only [Exit.then]
  have R4 := Lib.hid (((G3.out.trans (kb1.mono G3.out.size)).block _ Lt0.out).trans R0.out)
  have B4 := Lib.hid (Hb0.out.trans ((G3.out.trans (kb1.mono G3.out.size)).mono Hb0.out.size))
  obtain ⟨p0, p1, p2, p3, -, -⟩ := HS.out _ kb1
  clear kb1 k0
  go_wp2_with (refine wpList_store_row rfl 39 (.tmp 2) (.tmp 34) rfl (w.heap.size + 1) #[.int .i64 (ss.length : Int), .int .i64 x1, .int .i64 x2, .int .i64 x3] rfl rfl 39 _ R4.out (infoS4 _ _ _ _) rfl oneS4 ?_)
  refine bodyPost_ret (v := .tuple #[.agg #[.int .i64 (ss.length : Int), .int .i64 x1, .int .i64 x2, .int .i64 x3], .bool true]) ?_ rfl ?_
  · exact results_cell_row2 rfl _ _ (w.heap.size + 1) 39 _ (0, 0) _ _ rfl rfl (setRow_heap _ _ _ _ _ _ R4.out) Try.underlying39 rfl (by kernel_rfl)
  · exact ⟨by rw [Hf.out.1, Hf.out.2], below_setRow B4.out (Nat.le_succ _) _⟩
end Go.Proofs.Ytlickjmdlooapaa
