/- The statement of the law FnExactSelectedCount: whatever the input, the program's function answers as the model's, and the input reads as it did. Its conditions are the given statement's own; nothing is added. -/
import Derived.Test.YtkgkhdnpgcgoeaaCntI
import Derived.Test.YtkgkhdnpgcgoeaaSel
import Derived.Test.YtkgkhdnpgcgoeaaFrmE
import Derived.ProofKit
import Derived.OpenShut
import Derived.ShutString
import Derived.ChangeOld
import Derived.Below
import Derived.Deep.DeepFit
import Derived.Deep.WholeRow
import Derived.Deep.RegionHeld3
namespace Go.Proofs.Ytkgkhdnpgcgoeaa.fnExactSelectedCount
open Go.ChangeShapes Go.WideShapes Go.ChangeAt Go.RowKit
open Go.ChangeMaps (open_string shut_string)
set_option linter.unusedVariables false
set_option maxHeartbeats 4000000 in
set_option maxRecDepth 100000 in
theorem walk (w : World) (v0 : Value) (xs0 : List Int) (n1_0 : Int) (v1_1 : Value) (xs1_1 : List Int) (v1_2 : Value) (xs1_2 : List Int) (v1_3 : Value) (xs1_3 : List Int) (v1_4 : Value) (xs1_4 : List Int) (v1_5 : Value) (xs1_5 : List (List Int)) (h0 : Ri w.heap.size w v0 xs0) (h1_0 : InI n1_0) (h1_1 : Ri w.heap.size w v1_1 xs1_1) (h1_2 : Ri w.heap.size w v1_2 xs1_2) (h1_3 : Ri w.heap.size w v1_3 xs1_3) (h1_4 : Ri w.heap.size w v1_4 xs1_4) (h1_5 : RiP w.heap.size w v1_5 xs1_5) :
    Calls Try.prog 6 #[v0, .agg #[.int .i64 n1_0, v1_1, v1_2, v1_3, v1_4, v1_5]] w (GivesB (.bool true) w) := by
  have H0 := Lib.hid h0
  obtain ⟨A0, c0, rfl, _, hc0, _⟩ := h0
  unfold maxLen at hc0
  have N1_0 := Lib.hid h1_0; clear h1_0
  have H1_1 := Lib.hid h1_1; obtain ⟨A1_1, c1_1, rfl, _⟩ := h1_1
  have H1_2 := Lib.hid h1_2; obtain ⟨A1_2, c1_2, rfl, _⟩ := h1_2
  have H1_3 := Lib.hid h1_3; obtain ⟨A1_3, c1_3, rfl, _⟩ := h1_3
  have H1_4 := Lib.hid h1_4; obtain ⟨A1_4, c1_4, rfl, _⟩ := h1_4
  have H1_5 := Lib.hid h1_5; obtain ⟨A1_5, c1_5, rfl, _⟩ := h1_5
  by_cases big0 : 1048576 < xs0.length
  · have big0' : decide ((1048576 : Int) < (xs0.length : Int)) = true := decide_eq_true (by omega)
    go_enter Try.func6, Try.ntmps6
    go_wp2_with fail
    go_ret
    exact ⟨rfl, (Below.refl _ _).alloc (Nat.le_refl _) _⟩
  have small0 : decide ((1048576 : Int) < (xs0.length : Int)) = false := decide_eq_false (by omega)
  have HB0 : Hid (Below w.heap.size w (w.alloc (.cells #[.int .i64 n1_0, .slice A1_1 xs1_1.length c1_1, .slice A1_2 xs1_2.length c1_2, .slice A1_3 xs1_3.length c1_3, .slice A1_4 xs1_4.length c1_4, .slice A1_5 xs1_5.length c1_5] 25))) := Lib.hid ((Below.refl _ _).alloc (Nat.le_refl _) _)
  have Z0 : Hid ((w.alloc (.cells #[.int .i64 n1_0, .slice A1_1 xs1_1.length c1_1, .slice A1_2 xs1_2.length c1_2, .slice A1_3 xs1_3.length c1_3, .slice A1_4 xs1_4.length c1_4, .slice A1_5 xs1_5.length c1_5] 25)).heap.size = w.heap.size + 1) := Lib.hid (by simp)
  have Cc1_0_0 : Hid ((w.alloc (.cells #[.int .i64 n1_0, .slice A1_1 xs1_1.length c1_1, .slice A1_2 xs1_2.length c1_2, .slice A1_3 xs1_3.length c1_3, .slice A1_4 xs1_4.length c1_4, .slice A1_5 xs1_5.length c1_5] 25)).cell? ⟨w.heap.size, 0, none⟩ = some (.int .i64 n1_0)) := Lib.hid (by
    rw [cell_of_row _ _ _ _ _ _ (heap_alloc_new w _)]; rfl)
  have Cc1_1_0 : Hid ((w.alloc (.cells #[.int .i64 n1_0, .slice A1_1 xs1_1.length c1_1, .slice A1_2 xs1_2.length c1_2, .slice A1_3 xs1_3.length c1_3, .slice A1_4 xs1_4.length c1_4, .slice A1_5 xs1_5.length c1_5] 25)).cell? ⟨w.heap.size, 1, none⟩ = some (.slice A1_1 xs1_1.length c1_1)) := Lib.hid (by
    rw [cell_of_row _ _ _ _ _ _ (heap_alloc_new w _)]; rfl)
  have Cc1_2_0 : Hid ((w.alloc (.cells #[.int .i64 n1_0, .slice A1_1 xs1_1.length c1_1, .slice A1_2 xs1_2.length c1_2, .slice A1_3 xs1_3.length c1_3, .slice A1_4 xs1_4.length c1_4, .slice A1_5 xs1_5.length c1_5] 25)).cell? ⟨w.heap.size, 2, none⟩ = some (.slice A1_2 xs1_2.length c1_2)) := Lib.hid (by
    rw [cell_of_row _ _ _ _ _ _ (heap_alloc_new w _)]; rfl)
  have Cc1_3_0 : Hid ((w.alloc (.cells #[.int .i64 n1_0, .slice A1_1 xs1_1.length c1_1, .slice A1_2 xs1_2.length c1_2, .slice A1_3 xs1_3.length c1_3, .slice A1_4 xs1_4.length c1_4, .slice A1_5 xs1_5.length c1_5] 25)).cell? ⟨w.heap.size, 3, none⟩ = some (.slice A1_3 xs1_3.length c1_3)) := Lib.hid (by
    rw [cell_of_row _ _ _ _ _ _ (heap_alloc_new w _)]; rfl)
  have Cc1_4_0 : Hid ((w.alloc (.cells #[.int .i64 n1_0, .slice A1_1 xs1_1.length c1_1, .slice A1_2 xs1_2.length c1_2, .slice A1_3 xs1_3.length c1_3, .slice A1_4 xs1_4.length c1_4, .slice A1_5 xs1_5.length c1_5] 25)).cell? ⟨w.heap.size, 4, none⟩ = some (.slice A1_4 xs1_4.length c1_4)) := Lib.hid (by
    rw [cell_of_row _ _ _ _ _ _ (heap_alloc_new w _)]; rfl)
  have Cc1_5_0 : Hid ((w.alloc (.cells #[.int .i64 n1_0, .slice A1_1 xs1_1.length c1_1, .slice A1_2 xs1_2.length c1_2, .slice A1_3 xs1_3.length c1_3, .slice A1_4 xs1_4.length c1_4, .slice A1_5 xs1_5.length c1_5] 25)).cell? ⟨w.heap.size, 5, none⟩ = some (.slice A1_5 xs1_5.length c1_5)) := Lib.hid (by
    rw [cell_of_row _ _ _ _ _ _ (heap_alloc_new w _)]; rfl)
  go_enter Try.func6, Try.ntmps6
  go_wp2_with fail
  generalize (w.alloc (.cells #[.int .i64 n1_0, .slice A1_1 xs1_1.length c1_1, .slice A1_2 xs1_2.length c1_2, .slice A1_3 xs1_3.length c1_3, .slice A1_4 xs1_4.length c1_4, .slice A1_5 xs1_5.length c1_5] 25)) = w0 at *
  have LT0 : Hid (w.heap.size + 1 ≤ w0.heap.size) := Lib.hid (by have := Z0.out; omega)
  refine (szSel_any (H1_1.out.at (Nat.le_refl _) HB0.out) (H1_2.out.at (Nat.le_refl _) HB0.out) (H1_3.out.at (Nat.le_refl _) HB0.out) (H1_4.out.at (Nat.le_refl _) HB0.out) (H1_5.out.at (Nat.le_refl _) HB0.out) (Nat.le_refl _) (1048576) (by omega) (by omega)).mono ?_
  rintro e w1 ⟨l1, rfl, hl1, hL1, hp1, g⟩
  have P1 := Lib.hid hp1; have G1 := Lib.hid g; have SZ1 := Lib.hid g.size; clear hp1 g
  have HB1 : Hid (Below w.heap.size w w1) := Lib.hid (HB0.out.trans (G1.out.mono HB0.out.size))
  have Cc1_0_1 : Hid (w1.cell? ⟨w.heap.size, 0, none⟩ = some (.int .i64 n1_0)) := Lib.hid ((G1.out.cell (p := ⟨w.heap.size, 0, none⟩) (show w.heap.size < _ from by have := LT0.out; omega)).trans Cc1_0_0.out)
  have Cc1_1_1 : Hid (w1.cell? ⟨w.heap.size, 1, none⟩ = some (.slice A1_1 xs1_1.length c1_1)) := Lib.hid ((G1.out.cell (p := ⟨w.heap.size, 1, none⟩) (show w.heap.size < _ from by have := LT0.out; omega)).trans Cc1_1_0.out)
  have Cc1_2_1 : Hid (w1.cell? ⟨w.heap.size, 2, none⟩ = some (.slice A1_2 xs1_2.length c1_2)) := Lib.hid ((G1.out.cell (p := ⟨w.heap.size, 2, none⟩) (show w.heap.size < _ from by have := LT0.out; omega)).trans Cc1_2_0.out)
  have Cc1_3_1 : Hid (w1.cell? ⟨w.heap.size, 3, none⟩ = some (.slice A1_3 xs1_3.length c1_3)) := Lib.hid ((G1.out.cell (p := ⟨w.heap.size, 3, none⟩) (show w.heap.size < _ from by have := LT0.out; omega)).trans Cc1_3_0.out)
  have Cc1_4_1 : Hid (w1.cell? ⟨w.heap.size, 4, none⟩ = some (.slice A1_4 xs1_4.length c1_4)) := Lib.hid ((G1.out.cell (p := ⟨w.heap.size, 4, none⟩) (show w.heap.size < _ from by have := LT0.out; omega)).trans Cc1_4_0.out)
  have Cc1_5_1 : Hid (w1.cell? ⟨w.heap.size, 5, none⟩ = some (.slice A1_5 xs1_5.length c1_5)) := Lib.hid ((G1.out.cell (p := ⟨w.heap.size, 5, none⟩) (show w.heap.size < _ from by have := LT0.out; omega)).trans Cc1_5_0.out)
  have LT1 : Hid (w.heap.size + 1 ≤ w1.heap.size) := Lib.hid (by have := LT0.out; have := SZ1.out; omega)
  by_cases neg1 : l1 < 0
  · skip
    have qCc1_0_ := Cc1_0_1.out
    have qCc1_1_ := Cc1_1_1.out
    have qCc1_2_ := Cc1_2_1.out
    have qCc1_3_ := Cc1_3_1.out
    have qCc1_4_ := Cc1_4_1.out
    have qCc1_5_ := Cc1_5_1.out
    go_wp2_with fail
    go_ret
    exact ⟨rfl, HB1.out⟩
  have SM1 := Lib.hid (P1.out (by omega))
  have HSa : Hid (∀ W, Below w1.heap.size w1 W → W.cell? ⟨w.heap.size, 0, none⟩ = some (.int .i64 n1_0) ∧ W.cell? ⟨w.heap.size, 1, none⟩ = some (.slice A1_1 xs1_1.length c1_1) ∧ W.cell? ⟨w.heap.size, 2, none⟩ = some (.slice A1_2 xs1_2.length c1_2) ∧ W.cell? ⟨w.heap.size, 3, none⟩ = some (.slice A1_3 xs1_3.length c1_3) ∧ W.cell? ⟨w.heap.size, 4, none⟩ = some (.slice A1_4 xs1_4.length c1_4) ∧ W.cell? ⟨w.heap.size, 5, none⟩ = some (.slice A1_5 xs1_5.length c1_5)) := Lib.hid (fun W hW => ⟨(hW.cell (p := ⟨w.heap.size, 0, none⟩) (show w.heap.size < _ from by have := LT1.out; omega)).trans Cc1_0_1.out, (hW.cell (p := ⟨w.heap.size, 1, none⟩) (show w.heap.size < _ from by have := LT1.out; omega)).trans Cc1_1_1.out, (hW.cell (p := ⟨w.heap.size, 2, none⟩) (show w.heap.size < _ from by have := LT1.out; omega)).trans Cc1_2_1.out, (hW.cell (p := ⟨w.heap.size, 3, none⟩) (show w.heap.size < _ from by have := LT1.out; omega)).trans Cc1_3_1.out, (hW.cell (p := ⟨w.heap.size, 4, none⟩) (show w.heap.size < _ from by have := LT1.out; omega)).trans Cc1_4_1.out, (hW.cell (p := ⟨w.heap.size, 5, none⟩) (show w.heap.size < _ from by have := LT1.out; omega)).trans Cc1_5_1.out⟩)
  have HBd : Hid (Below w.heap.size w w1.drew) := Lib.hid HB1.out.drew
  have qCc1_0_ := Cc1_0_1.out
  have qCc1_1_ := Cc1_1_1.out
  have qCc1_2_ := Cc1_2_1.out
  have qCc1_3_ := Cc1_3_1.out
  have qCc1_4_ := Cc1_4_1.out
  have qCc1_5_ := Cc1_5_1.out
  go_wp2
  clear qCc1_0_ qCc1_1_ qCc1_2_ qCc1_3_ qCc1_4_ qCc1_5_
  go_region_held3 (fun W => W.cell? ⟨w.heap.size, 0, none⟩ = some (.int .i64 n1_0) ∧ W.cell? ⟨w.heap.size, 1, none⟩ = some (.slice A1_1 xs1_1.length c1_1) ∧ W.cell? ⟨w.heap.size, 2, none⟩ = some (.slice A1_2 xs1_2.length c1_2) ∧ W.cell? ⟨w.heap.size, 3, none⟩ = some (.slice A1_3 xs1_3.length c1_3) ∧ W.cell? ⟨w.heap.size, 4, none⟩ = some (.slice A1_4 xs1_4.length c1_4) ∧ W.cell? ⟨w.heap.size, 5, none⟩ = some (.slice A1_5 xs1_5.length c1_5)) (exact HSa.out _ (by first | exact kba2 | exact kba1 | exact kba0 | exact (Below.refl _ _).drew))
    ((first | (go_at_call 17; go_fit (toI_rd (H0.out.at (Nat.le_refl _) (HB1.out.trans (((Below.refl _ _).drew).mono HB1.out.size))) (Nat.le_refl _) (by omega)); rintro e ua0 ⟨SA0, rfl, r0, ga0⟩; have S0d := Lib.hid r0; clear r0; have kba0 : Below w1.heap.size w1 ua0 := ((Below.refl _ _).drew.trans ga0)) | (go_at_call 13; go_fit (toSel_rd (H1_1.out.at (Nat.le_refl _) (HB1.out.trans ((kba0).mono HB1.out.size))) (H1_2.out.at (Nat.le_refl _) (HB1.out.trans ((kba0).mono HB1.out.size))) (H1_3.out.at (Nat.le_refl _) (HB1.out.trans ((kba0).mono HB1.out.size))) (H1_4.out.at (Nat.le_refl _) (HB1.out.trans ((kba0).mono HB1.out.size))) (H1_5.out.at (Nat.le_refl _) (HB1.out.trans ((kba0).mono HB1.out.size))) (Nat.le_refl _) SM1.out); rintro e ua1 ⟨SA1_1, SA1_2, SA1_3, SA1_4, SA1_5, rfl, r1_1, r1_2, r1_3, r1_4, r1_5, ga1⟩; have S1_1d := Lib.hid r1_1; clear r1_1; have S1_2d := Lib.hid r1_2; clear r1_2; have S1_3d := Lib.hid r1_3; clear r1_3; have S1_4d := Lib.hid r1_4; clear r1_4; have S1_5d := Lib.hid r1_5; clear r1_5; have kba1 : Below w1.heap.size w1 ua1 := (kba0.trans (ga1.mono kba0.size))) | (go_at_call 22; go_fit (specCount_any (S0d.out.at (Nat.le_refl _) ga1) S1_1d.out S1_2d.out S1_3d.out S1_4d.out S1_5d.out (Nat.le_refl _)); rintro e w2 ⟨rfl, ga2⟩; have kba2 : Below w1.heap.size w1 w2 := (kba1.trans (ga2.mono kba1.size)))))
  try simp only [Exit.then]
  have SZ2 := Lib.hid kba2.size; have G2 := Lib.hid kba2
  have HB2 : Hid (Below w.heap.size w w2) := Lib.hid (HB1.out.trans (G2.out.mono HB1.out.size))
  have Cc1_0_2 : Hid (w2.cell? ⟨w.heap.size, 0, none⟩ = some (.int .i64 n1_0)) := Lib.hid ((G2.out.cell (p := ⟨w.heap.size, 0, none⟩) (show w.heap.size < _ from by have := LT1.out; omega)).trans Cc1_0_1.out)
  have Cc1_1_2 : Hid (w2.cell? ⟨w.heap.size, 1, none⟩ = some (.slice A1_1 xs1_1.length c1_1)) := Lib.hid ((G2.out.cell (p := ⟨w.heap.size, 1, none⟩) (show w.heap.size < _ from by have := LT1.out; omega)).trans Cc1_1_1.out)
  have Cc1_2_2 : Hid (w2.cell? ⟨w.heap.size, 2, none⟩ = some (.slice A1_2 xs1_2.length c1_2)) := Lib.hid ((G2.out.cell (p := ⟨w.heap.size, 2, none⟩) (show w.heap.size < _ from by have := LT1.out; omega)).trans Cc1_2_1.out)
  have Cc1_3_2 : Hid (w2.cell? ⟨w.heap.size, 3, none⟩ = some (.slice A1_3 xs1_3.length c1_3)) := Lib.hid ((G2.out.cell (p := ⟨w.heap.size, 3, none⟩) (show w.heap.size < _ from by have := LT1.out; omega)).trans Cc1_3_1.out)
  have Cc1_4_2 : Hid (w2.cell? ⟨w.heap.size, 4, none⟩ = some (.slice A1_4 xs1_4.length c1_4)) := Lib.hid ((G2.out.cell (p := ⟨w.heap.size, 4, none⟩) (show w.heap.size < _ from by have := LT1.out; omega)).trans Cc1_4_1.out)
  have Cc1_5_2 : Hid (w2.cell? ⟨w.heap.size, 5, none⟩ = some (.slice A1_5 xs1_5.length c1_5)) := Lib.hid ((G2.out.cell (p := ⟨w.heap.size, 5, none⟩) (show w.heap.size < _ from by have := LT1.out; omega)).trans Cc1_5_1.out)
  have LT2 : Hid (w.heap.size + 1 ≤ w2.heap.size) := Lib.hid (by have := LT1.out; have := SZ2.out; omega)
  have qCc1_0_ := Cc1_0_2.out
  have qCc1_1_ := Cc1_1_2.out
  have qCc1_2_ := Cc1_2_2.out
  have qCc1_3_ := Cc1_3_2.out
  have qCc1_4_ := Cc1_4_2.out
  have qCc1_5_ := Cc1_5_2.out
  go_wp2_with fail
  clear qCc1_0_ qCc1_1_ qCc1_2_ qCc1_3_ qCc1_4_ qCc1_5_
  refine (toI_rd (H0.out.at (Nat.le_refl _) HB2.out) (Nat.le_refl _) (by omega)).mono ?_
  rintro e w3 ⟨XA0, rfl, r0, g⟩
  have G3 := Lib.hid g; have SZ3 := Lib.hid g.size; clear g
  have X0_3 : Hid (Ri w3.heap.size w3 (.slice XA0 xs0.length xs0.length) xs0) := Lib.hid r0; clear r0
  have HB3 : Hid (Below w.heap.size w w3) := Lib.hid (HB2.out.trans (G3.out.mono HB2.out.size))
  have Cc1_0_3 : Hid (w3.cell? ⟨w.heap.size, 0, none⟩ = some (.int .i64 n1_0)) := Lib.hid ((G3.out.cell (p := ⟨w.heap.size, 0, none⟩) (show w.heap.size < _ from by have := LT2.out; omega)).trans Cc1_0_2.out)
  have Cc1_1_3 : Hid (w3.cell? ⟨w.heap.size, 1, none⟩ = some (.slice A1_1 xs1_1.length c1_1)) := Lib.hid ((G3.out.cell (p := ⟨w.heap.size, 1, none⟩) (show w.heap.size < _ from by have := LT2.out; omega)).trans Cc1_1_2.out)
  have Cc1_2_3 : Hid (w3.cell? ⟨w.heap.size, 2, none⟩ = some (.slice A1_2 xs1_2.length c1_2)) := Lib.hid ((G3.out.cell (p := ⟨w.heap.size, 2, none⟩) (show w.heap.size < _ from by have := LT2.out; omega)).trans Cc1_2_2.out)
  have Cc1_3_3 : Hid (w3.cell? ⟨w.heap.size, 3, none⟩ = some (.slice A1_3 xs1_3.length c1_3)) := Lib.hid ((G3.out.cell (p := ⟨w.heap.size, 3, none⟩) (show w.heap.size < _ from by have := LT2.out; omega)).trans Cc1_3_2.out)
  have Cc1_4_3 : Hid (w3.cell? ⟨w.heap.size, 4, none⟩ = some (.slice A1_4 xs1_4.length c1_4)) := Lib.hid ((G3.out.cell (p := ⟨w.heap.size, 4, none⟩) (show w.heap.size < _ from by have := LT2.out; omega)).trans Cc1_4_2.out)
  have Cc1_5_3 : Hid (w3.cell? ⟨w.heap.size, 5, none⟩ = some (.slice A1_5 xs1_5.length c1_5)) := Lib.hid ((G3.out.cell (p := ⟨w.heap.size, 5, none⟩) (show w.heap.size < _ from by have := LT2.out; omega)).trans Cc1_5_2.out)
  have LT3 : Hid (w.heap.size + 1 ≤ w3.heap.size) := Lib.hid (by have := LT2.out; have := SZ3.out; omega)
  have qCc1_0_ := Cc1_0_3.out
  have qCc1_1_ := Cc1_1_3.out
  have qCc1_2_ := Cc1_2_3.out
  have qCc1_3_ := Cc1_3_3.out
  have qCc1_4_ := Cc1_4_3.out
  have qCc1_5_ := Cc1_5_3.out
  go_wp2_with fail
  clear qCc1_0_ qCc1_1_ qCc1_2_ qCc1_3_ qCc1_4_ qCc1_5_
  refine (toSel_rd (H1_1.out.at (Nat.le_refl _) HB3.out) (H1_2.out.at (Nat.le_refl _) HB3.out) (H1_3.out.at (Nat.le_refl _) HB3.out) (H1_4.out.at (Nat.le_refl _) HB3.out) (H1_5.out.at (Nat.le_refl _) HB3.out) (Nat.le_refl _) SM1.out).mono ?_
  rintro e w4 ⟨XA1_1, XA1_2, XA1_3, XA1_4, XA1_5, rfl, r1_1, r1_2, r1_3, r1_4, r1_5, g⟩
  have G4 := Lib.hid g; have SZ4 := Lib.hid g.size; clear g
  have X1_1_4 : Hid (Ri w4.heap.size w4 (.slice XA1_1 xs1_1.length xs1_1.length) xs1_1) := Lib.hid r1_1; clear r1_1
  have X1_2_4 : Hid (Ri w4.heap.size w4 (.slice XA1_2 xs1_2.length xs1_2.length) xs1_2) := Lib.hid r1_2; clear r1_2
  have X1_3_4 : Hid (Ri w4.heap.size w4 (.slice XA1_3 xs1_3.length xs1_3.length) xs1_3) := Lib.hid r1_3; clear r1_3
  have X1_4_4 : Hid (Ri w4.heap.size w4 (.slice XA1_4 xs1_4.length xs1_4.length) xs1_4) := Lib.hid r1_4; clear r1_4
  have X1_5_4 : Hid (RiP w4.heap.size w4 (.slice XA1_5 xs1_5.length xs1_5.length) xs1_5) := Lib.hid r1_5; clear r1_5
  have HB4 : Hid (Below w.heap.size w w4) := Lib.hid (HB3.out.trans (G4.out.mono HB3.out.size))
  have Cc1_0_4 : Hid (w4.cell? ⟨w.heap.size, 0, none⟩ = some (.int .i64 n1_0)) := Lib.hid ((G4.out.cell (p := ⟨w.heap.size, 0, none⟩) (show w.heap.size < _ from by have := LT3.out; omega)).trans Cc1_0_3.out)
  have Cc1_1_4 : Hid (w4.cell? ⟨w.heap.size, 1, none⟩ = some (.slice A1_1 xs1_1.length c1_1)) := Lib.hid ((G4.out.cell (p := ⟨w.heap.size, 1, none⟩) (show w.heap.size < _ from by have := LT3.out; omega)).trans Cc1_1_3.out)
  have Cc1_2_4 : Hid (w4.cell? ⟨w.heap.size, 2, none⟩ = some (.slice A1_2 xs1_2.length c1_2)) := Lib.hid ((G4.out.cell (p := ⟨w.heap.size, 2, none⟩) (show w.heap.size < _ from by have := LT3.out; omega)).trans Cc1_2_3.out)
  have Cc1_3_4 : Hid (w4.cell? ⟨w.heap.size, 3, none⟩ = some (.slice A1_3 xs1_3.length c1_3)) := Lib.hid ((G4.out.cell (p := ⟨w.heap.size, 3, none⟩) (show w.heap.size < _ from by have := LT3.out; omega)).trans Cc1_3_3.out)
  have Cc1_4_4 : Hid (w4.cell? ⟨w.heap.size, 4, none⟩ = some (.slice A1_4 xs1_4.length c1_4)) := Lib.hid ((G4.out.cell (p := ⟨w.heap.size, 4, none⟩) (show w.heap.size < _ from by have := LT3.out; omega)).trans Cc1_4_3.out)
  have Cc1_5_4 : Hid (w4.cell? ⟨w.heap.size, 5, none⟩ = some (.slice A1_5 xs1_5.length c1_5)) := Lib.hid ((G4.out.cell (p := ⟨w.heap.size, 5, none⟩) (show w.heap.size < _ from by have := LT3.out; omega)).trans Cc1_5_3.out)
  have X0_4 : Hid (Ri w4.heap.size w4 (.slice XA0 xs0.length xs0.length) xs0) := Lib.hid (X0_3.out.at (Nat.le_refl _) G4.out)
  have LT4 : Hid (w.heap.size + 1 ≤ w4.heap.size) := Lib.hid (by have := LT3.out; have := SZ4.out; omega)
  have Hi1 : Hid ((Try.prog.info? 30).map (·.size) = some (#[.int .i64 n1_0, .slice XA1_1 xs1_1.length xs1_1.length, .slice XA1_2 xs1_2.length xs1_2.length, .slice XA1_3 xs1_3.length xs1_3.length, .slice XA1_4 xs1_4.length xs1_4.length, .slice XA1_5 xs1_5.length xs1_5.length] : Array Value).size) := Lib.hid (by kernel_rfl)
  have H11 : Hid ((#[.int .i64 n1_0, .slice XA1_1 xs1_1.length xs1_1.length, .slice XA1_2 xs1_2.length xs1_2.length, .slice XA1_3 xs1_3.length xs1_3.length, .slice XA1_4 xs1_4.length xs1_4.length, .slice XA1_5 xs1_5.length xs1_5.length] : Array Value).all (·.oneCell') = true) := Lib.hid (by simp [Value.oneCell'])
  have Gx1 : Hid (Below w4.heap.size w4 (w4.alloc (.cells #[.int .i64 n1_0, .slice XA1_1 xs1_1.length xs1_1.length, .slice XA1_2 xs1_2.length xs1_2.length, .slice XA1_3 xs1_3.length xs1_3.length, .slice XA1_4 xs1_4.length xs1_4.length, .slice XA1_5 xs1_5.length xs1_5.length] 30))) := Lib.hid ((Below.refl _ _).alloc (Nat.le_refl _) _)
  have SZ5 : Hid (w4.heap.size + 1 ≤ (w4.alloc (.cells #[.int .i64 n1_0, .slice XA1_1 xs1_1.length xs1_1.length, .slice XA1_2 xs1_2.length xs1_2.length, .slice XA1_3 xs1_3.length xs1_3.length, .slice XA1_4 xs1_4.length xs1_4.length, .slice XA1_5 xs1_5.length xs1_5.length] 30)).heap.size) := Lib.hid (by simp)
  have HB5 : Hid (Below w.heap.size w (w4.alloc (.cells #[.int .i64 n1_0, .slice XA1_1 xs1_1.length xs1_1.length, .slice XA1_2 xs1_2.length xs1_2.length, .slice XA1_3 xs1_3.length xs1_3.length, .slice XA1_4 xs1_4.length xs1_4.length, .slice XA1_5 xs1_5.length xs1_5.length] 30))) := Lib.hid (HB4.out.trans (Gx1.out.mono HB4.out.size))
  have Cc1_0_5 : Hid ((w4.alloc (.cells #[.int .i64 n1_0, .slice XA1_1 xs1_1.length xs1_1.length, .slice XA1_2 xs1_2.length xs1_2.length, .slice XA1_3 xs1_3.length xs1_3.length, .slice XA1_4 xs1_4.length xs1_4.length, .slice XA1_5 xs1_5.length xs1_5.length] 30)).cell? ⟨w.heap.size, 0, none⟩ = some (.int .i64 n1_0)) := Lib.hid ((Gx1.out.cell (p := ⟨w.heap.size, 0, none⟩) (show w.heap.size < _ from by have := LT4.out; omega)).trans Cc1_0_4.out)
  have Cc1_1_5 : Hid ((w4.alloc (.cells #[.int .i64 n1_0, .slice XA1_1 xs1_1.length xs1_1.length, .slice XA1_2 xs1_2.length xs1_2.length, .slice XA1_3 xs1_3.length xs1_3.length, .slice XA1_4 xs1_4.length xs1_4.length, .slice XA1_5 xs1_5.length xs1_5.length] 30)).cell? ⟨w.heap.size, 1, none⟩ = some (.slice A1_1 xs1_1.length c1_1)) := Lib.hid ((Gx1.out.cell (p := ⟨w.heap.size, 1, none⟩) (show w.heap.size < _ from by have := LT4.out; omega)).trans Cc1_1_4.out)
  have Cc1_2_5 : Hid ((w4.alloc (.cells #[.int .i64 n1_0, .slice XA1_1 xs1_1.length xs1_1.length, .slice XA1_2 xs1_2.length xs1_2.length, .slice XA1_3 xs1_3.length xs1_3.length, .slice XA1_4 xs1_4.length xs1_4.length, .slice XA1_5 xs1_5.length xs1_5.length] 30)).cell? ⟨w.heap.size, 2, none⟩ = some (.slice A1_2 xs1_2.length c1_2)) := Lib.hid ((Gx1.out.cell (p := ⟨w.heap.size, 2, none⟩) (show w.heap.size < _ from by have := LT4.out; omega)).trans Cc1_2_4.out)
  have Cc1_3_5 : Hid ((w4.alloc (.cells #[.int .i64 n1_0, .slice XA1_1 xs1_1.length xs1_1.length, .slice XA1_2 xs1_2.length xs1_2.length, .slice XA1_3 xs1_3.length xs1_3.length, .slice XA1_4 xs1_4.length xs1_4.length, .slice XA1_5 xs1_5.length xs1_5.length] 30)).cell? ⟨w.heap.size, 3, none⟩ = some (.slice A1_3 xs1_3.length c1_3)) := Lib.hid ((Gx1.out.cell (p := ⟨w.heap.size, 3, none⟩) (show w.heap.size < _ from by have := LT4.out; omega)).trans Cc1_3_4.out)
  have Cc1_4_5 : Hid ((w4.alloc (.cells #[.int .i64 n1_0, .slice XA1_1 xs1_1.length xs1_1.length, .slice XA1_2 xs1_2.length xs1_2.length, .slice XA1_3 xs1_3.length xs1_3.length, .slice XA1_4 xs1_4.length xs1_4.length, .slice XA1_5 xs1_5.length xs1_5.length] 30)).cell? ⟨w.heap.size, 4, none⟩ = some (.slice A1_4 xs1_4.length c1_4)) := Lib.hid ((Gx1.out.cell (p := ⟨w.heap.size, 4, none⟩) (show w.heap.size < _ from by have := LT4.out; omega)).trans Cc1_4_4.out)
  have Cc1_5_5 : Hid ((w4.alloc (.cells #[.int .i64 n1_0, .slice XA1_1 xs1_1.length xs1_1.length, .slice XA1_2 xs1_2.length xs1_2.length, .slice XA1_3 xs1_3.length xs1_3.length, .slice XA1_4 xs1_4.length xs1_4.length, .slice XA1_5 xs1_5.length xs1_5.length] 30)).cell? ⟨w.heap.size, 5, none⟩ = some (.slice A1_5 xs1_5.length c1_5)) := Lib.hid ((Gx1.out.cell (p := ⟨w.heap.size, 5, none⟩) (show w.heap.size < _ from by have := LT4.out; omega)).trans Cc1_5_4.out)
  have X0_5 : Hid (Ri (w4.alloc (.cells #[.int .i64 n1_0, .slice XA1_1 xs1_1.length xs1_1.length, .slice XA1_2 xs1_2.length xs1_2.length, .slice XA1_3 xs1_3.length xs1_3.length, .slice XA1_4 xs1_4.length xs1_4.length, .slice XA1_5 xs1_5.length xs1_5.length] 30)).heap.size (w4.alloc (.cells #[.int .i64 n1_0, .slice XA1_1 xs1_1.length xs1_1.length, .slice XA1_2 xs1_2.length xs1_2.length, .slice XA1_3 xs1_3.length xs1_3.length, .slice XA1_4 xs1_4.length xs1_4.length, .slice XA1_5 xs1_5.length xs1_5.length] 30)) (.slice XA0 xs0.length xs0.length) xs0) := Lib.hid (X0_4.out.at (Nat.le_refl _) Gx1.out)
  have X1_1_5 : Hid (Ri (w4.alloc (.cells #[.int .i64 n1_0, .slice XA1_1 xs1_1.length xs1_1.length, .slice XA1_2 xs1_2.length xs1_2.length, .slice XA1_3 xs1_3.length xs1_3.length, .slice XA1_4 xs1_4.length xs1_4.length, .slice XA1_5 xs1_5.length xs1_5.length] 30)).heap.size (w4.alloc (.cells #[.int .i64 n1_0, .slice XA1_1 xs1_1.length xs1_1.length, .slice XA1_2 xs1_2.length xs1_2.length, .slice XA1_3 xs1_3.length xs1_3.length, .slice XA1_4 xs1_4.length xs1_4.length, .slice XA1_5 xs1_5.length xs1_5.length] 30)) (.slice XA1_1 xs1_1.length xs1_1.length) xs1_1) := Lib.hid (X1_1_4.out.at (Nat.le_refl _) Gx1.out)
  have X1_2_5 : Hid (Ri (w4.alloc (.cells #[.int .i64 n1_0, .slice XA1_1 xs1_1.length xs1_1.length, .slice XA1_2 xs1_2.length xs1_2.length, .slice XA1_3 xs1_3.length xs1_3.length, .slice XA1_4 xs1_4.length xs1_4.length, .slice XA1_5 xs1_5.length xs1_5.length] 30)).heap.size (w4.alloc (.cells #[.int .i64 n1_0, .slice XA1_1 xs1_1.length xs1_1.length, .slice XA1_2 xs1_2.length xs1_2.length, .slice XA1_3 xs1_3.length xs1_3.length, .slice XA1_4 xs1_4.length xs1_4.length, .slice XA1_5 xs1_5.length xs1_5.length] 30)) (.slice XA1_2 xs1_2.length xs1_2.length) xs1_2) := Lib.hid (X1_2_4.out.at (Nat.le_refl _) Gx1.out)
  have X1_3_5 : Hid (Ri (w4.alloc (.cells #[.int .i64 n1_0, .slice XA1_1 xs1_1.length xs1_1.length, .slice XA1_2 xs1_2.length xs1_2.length, .slice XA1_3 xs1_3.length xs1_3.length, .slice XA1_4 xs1_4.length xs1_4.length, .slice XA1_5 xs1_5.length xs1_5.length] 30)).heap.size (w4.alloc (.cells #[.int .i64 n1_0, .slice XA1_1 xs1_1.length xs1_1.length, .slice XA1_2 xs1_2.length xs1_2.length, .slice XA1_3 xs1_3.length xs1_3.length, .slice XA1_4 xs1_4.length xs1_4.length, .slice XA1_5 xs1_5.length xs1_5.length] 30)) (.slice XA1_3 xs1_3.length xs1_3.length) xs1_3) := Lib.hid (X1_3_4.out.at (Nat.le_refl _) Gx1.out)
  have X1_4_5 : Hid (Ri (w4.alloc (.cells #[.int .i64 n1_0, .slice XA1_1 xs1_1.length xs1_1.length, .slice XA1_2 xs1_2.length xs1_2.length, .slice XA1_3 xs1_3.length xs1_3.length, .slice XA1_4 xs1_4.length xs1_4.length, .slice XA1_5 xs1_5.length xs1_5.length] 30)).heap.size (w4.alloc (.cells #[.int .i64 n1_0, .slice XA1_1 xs1_1.length xs1_1.length, .slice XA1_2 xs1_2.length xs1_2.length, .slice XA1_3 xs1_3.length xs1_3.length, .slice XA1_4 xs1_4.length xs1_4.length, .slice XA1_5 xs1_5.length xs1_5.length] 30)) (.slice XA1_4 xs1_4.length xs1_4.length) xs1_4) := Lib.hid (X1_4_4.out.at (Nat.le_refl _) Gx1.out)
  have X1_5_5 : Hid (RiP (w4.alloc (.cells #[.int .i64 n1_0, .slice XA1_1 xs1_1.length xs1_1.length, .slice XA1_2 xs1_2.length xs1_2.length, .slice XA1_3 xs1_3.length xs1_3.length, .slice XA1_4 xs1_4.length xs1_4.length, .slice XA1_5 xs1_5.length xs1_5.length] 30)).heap.size (w4.alloc (.cells #[.int .i64 n1_0, .slice XA1_1 xs1_1.length xs1_1.length, .slice XA1_2 xs1_2.length xs1_2.length, .slice XA1_3 xs1_3.length xs1_3.length, .slice XA1_4 xs1_4.length xs1_4.length, .slice XA1_5 xs1_5.length xs1_5.length] 30)) (.slice XA1_5 xs1_5.length xs1_5.length) xs1_5) := Lib.hid (X1_5_4.out.at (Nat.le_refl _) Gx1.out)
  have LT5 : Hid (w.heap.size + 1 ≤ (w4.alloc (.cells #[.int .i64 n1_0, .slice XA1_1 xs1_1.length xs1_1.length, .slice XA1_2 xs1_2.length xs1_2.length, .slice XA1_3 xs1_3.length xs1_3.length, .slice XA1_4 xs1_4.length xs1_4.length, .slice XA1_5 xs1_5.length xs1_5.length] 30)).heap.size ∧ w4.heap.size < (w4.alloc (.cells #[.int .i64 n1_0, .slice XA1_1 xs1_1.length xs1_1.length, .slice XA1_2 xs1_2.length xs1_2.length, .slice XA1_3 xs1_3.length xs1_3.length, .slice XA1_4 xs1_4.length xs1_4.length, .slice XA1_5 xs1_5.length xs1_5.length] 30)).heap.size) := Lib.hid (by have := LT4.out; have := SZ5.out; omega)
  have CX1_0_5 : Hid ((w4.alloc (.cells #[.int .i64 n1_0, .slice XA1_1 xs1_1.length xs1_1.length, .slice XA1_2 xs1_2.length xs1_2.length, .slice XA1_3 xs1_3.length xs1_3.length, .slice XA1_4 xs1_4.length xs1_4.length, .slice XA1_5 xs1_5.length xs1_5.length] 30)).cell? ⟨w4.heap.size, 0, none⟩ = some (.int .i64 n1_0)) := Lib.hid (by rw [cell_of_row _ _ _ _ _ _ (heap_alloc_new w4 _)]; rfl)
  have CX1_1_5 : Hid ((w4.alloc (.cells #[.int .i64 n1_0, .slice XA1_1 xs1_1.length xs1_1.length, .slice XA1_2 xs1_2.length xs1_2.length, .slice XA1_3 xs1_3.length xs1_3.length, .slice XA1_4 xs1_4.length xs1_4.length, .slice XA1_5 xs1_5.length xs1_5.length] 30)).cell? ⟨w4.heap.size, 1, none⟩ = some (.slice XA1_1 xs1_1.length xs1_1.length)) := Lib.hid (by rw [cell_of_row _ _ _ _ _ _ (heap_alloc_new w4 _)]; rfl)
  have CX1_2_5 : Hid ((w4.alloc (.cells #[.int .i64 n1_0, .slice XA1_1 xs1_1.length xs1_1.length, .slice XA1_2 xs1_2.length xs1_2.length, .slice XA1_3 xs1_3.length xs1_3.length, .slice XA1_4 xs1_4.length xs1_4.length, .slice XA1_5 xs1_5.length xs1_5.length] 30)).cell? ⟨w4.heap.size, 2, none⟩ = some (.slice XA1_2 xs1_2.length xs1_2.length)) := Lib.hid (by rw [cell_of_row _ _ _ _ _ _ (heap_alloc_new w4 _)]; rfl)
  have CX1_3_5 : Hid ((w4.alloc (.cells #[.int .i64 n1_0, .slice XA1_1 xs1_1.length xs1_1.length, .slice XA1_2 xs1_2.length xs1_2.length, .slice XA1_3 xs1_3.length xs1_3.length, .slice XA1_4 xs1_4.length xs1_4.length, .slice XA1_5 xs1_5.length xs1_5.length] 30)).cell? ⟨w4.heap.size, 3, none⟩ = some (.slice XA1_3 xs1_3.length xs1_3.length)) := Lib.hid (by rw [cell_of_row _ _ _ _ _ _ (heap_alloc_new w4 _)]; rfl)
  have CX1_4_5 : Hid ((w4.alloc (.cells #[.int .i64 n1_0, .slice XA1_1 xs1_1.length xs1_1.length, .slice XA1_2 xs1_2.length xs1_2.length, .slice XA1_3 xs1_3.length xs1_3.length, .slice XA1_4 xs1_4.length xs1_4.length, .slice XA1_5 xs1_5.length xs1_5.length] 30)).cell? ⟨w4.heap.size, 4, none⟩ = some (.slice XA1_4 xs1_4.length xs1_4.length)) := Lib.hid (by rw [cell_of_row _ _ _ _ _ _ (heap_alloc_new w4 _)]; rfl)
  have CX1_5_5 : Hid ((w4.alloc (.cells #[.int .i64 n1_0, .slice XA1_1 xs1_1.length xs1_1.length, .slice XA1_2 xs1_2.length xs1_2.length, .slice XA1_3 xs1_3.length xs1_3.length, .slice XA1_4 xs1_4.length xs1_4.length, .slice XA1_5 xs1_5.length xs1_5.length] 30)).cell? ⟨w4.heap.size, 5, none⟩ = some (.slice XA1_5 xs1_5.length xs1_5.length)) := Lib.hid (by rw [cell_of_row _ _ _ _ _ _ (heap_alloc_new w4 _)]; rfl)
  have qCc1_0_ := Cc1_0_5.out
  have qCc1_1_ := Cc1_1_5.out
  have qCc1_2_ := Cc1_2_5.out
  have qCc1_3_ := Cc1_3_5.out
  have qCc1_4_ := Cc1_4_5.out
  have qCc1_5_ := Cc1_5_5.out
  have qCX1_0_ := CX1_0_5.out
  have qCX1_1_ := CX1_1_5.out
  have qCX1_2_ := CX1_2_5.out
  have qCX1_3_ := CX1_3_5.out
  have qCX1_4_ := CX1_4_5.out
  have qCX1_5_ := CX1_5_5.out
  go_wp2_with (refine wpList_store_last rfl 30 (.tmp 8) (.tmp 26) rfl #[.int .i64 n1_0, .slice XA1_1 xs1_1.length xs1_1.length, .slice XA1_2 xs1_2.length xs1_2.length, .slice XA1_3 xs1_3.length xs1_3.length, .slice XA1_4 xs1_4.length xs1_4.length, .slice XA1_5 xs1_5.length xs1_5.length] _ 30 rfl rfl Hi1.out rfl H11.out ?_)
  clear qCc1_0_ qCc1_1_ qCc1_2_ qCc1_3_ qCc1_4_ qCc1_5_ qCX1_0_ qCX1_1_ qCX1_2_ qCX1_3_ qCX1_4_ qCX1_5_
  generalize (w4.alloc (.cells #[.int .i64 n1_0, .slice XA1_1 xs1_1.length xs1_1.length, .slice XA1_2 xs1_2.length xs1_2.length, .slice XA1_3 xs1_3.length xs1_3.length, .slice XA1_4 xs1_4.length xs1_4.length, .slice XA1_5 xs1_5.length xs1_5.length] 30)) = w5 at *
  refine (implCount_any X0_5.out X1_1_5.out X1_2_5.out X1_3_5.out X1_4_5.out X1_5_5.out (Nat.le_refl _) ⟨SM1.out.1, SM1.out.2.1, SM1.out.2.2.1, SM1.out.2.2.2.1⟩).mono ?_
  rintro e w6 ⟨rfl, g⟩
  have G6 := Lib.hid g; have SZ6 := Lib.hid g.size; clear g
  have HB6 : Hid (Below w.heap.size w w6) := Lib.hid (HB5.out.trans (G6.out.mono HB5.out.size))
  have Cc1_0_6 : Hid (w6.cell? ⟨w.heap.size, 0, none⟩ = some (.int .i64 n1_0)) := Lib.hid ((G6.out.cell (p := ⟨w.heap.size, 0, none⟩) (show w.heap.size < _ from by have := LT5.out; omega)).trans Cc1_0_5.out)
  have Cc1_1_6 : Hid (w6.cell? ⟨w.heap.size, 1, none⟩ = some (.slice A1_1 xs1_1.length c1_1)) := Lib.hid ((G6.out.cell (p := ⟨w.heap.size, 1, none⟩) (show w.heap.size < _ from by have := LT5.out; omega)).trans Cc1_1_5.out)
  have Cc1_2_6 : Hid (w6.cell? ⟨w.heap.size, 2, none⟩ = some (.slice A1_2 xs1_2.length c1_2)) := Lib.hid ((G6.out.cell (p := ⟨w.heap.size, 2, none⟩) (show w.heap.size < _ from by have := LT5.out; omega)).trans Cc1_2_5.out)
  have Cc1_3_6 : Hid (w6.cell? ⟨w.heap.size, 3, none⟩ = some (.slice A1_3 xs1_3.length c1_3)) := Lib.hid ((G6.out.cell (p := ⟨w.heap.size, 3, none⟩) (show w.heap.size < _ from by have := LT5.out; omega)).trans Cc1_3_5.out)
  have Cc1_4_6 : Hid (w6.cell? ⟨w.heap.size, 4, none⟩ = some (.slice A1_4 xs1_4.length c1_4)) := Lib.hid ((G6.out.cell (p := ⟨w.heap.size, 4, none⟩) (show w.heap.size < _ from by have := LT5.out; omega)).trans Cc1_4_5.out)
  have Cc1_5_6 : Hid (w6.cell? ⟨w.heap.size, 5, none⟩ = some (.slice A1_5 xs1_5.length c1_5)) := Lib.hid ((G6.out.cell (p := ⟨w.heap.size, 5, none⟩) (show w.heap.size < _ from by have := LT5.out; omega)).trans Cc1_5_5.out)
  have CX1_0_6 : Hid (w6.cell? ⟨w4.heap.size, 0, none⟩ = some (.int .i64 n1_0)) := Lib.hid ((G6.out.cell (p := ⟨w4.heap.size, 0, none⟩) (show w4.heap.size < _ from by have := LT5.out; omega)).trans CX1_0_5.out)
  have CX1_1_6 : Hid (w6.cell? ⟨w4.heap.size, 1, none⟩ = some (.slice XA1_1 xs1_1.length xs1_1.length)) := Lib.hid ((G6.out.cell (p := ⟨w4.heap.size, 1, none⟩) (show w4.heap.size < _ from by have := LT5.out; omega)).trans CX1_1_5.out)
  have CX1_2_6 : Hid (w6.cell? ⟨w4.heap.size, 2, none⟩ = some (.slice XA1_2 xs1_2.length xs1_2.length)) := Lib.hid ((G6.out.cell (p := ⟨w4.heap.size, 2, none⟩) (show w4.heap.size < _ from by have := LT5.out; omega)).trans CX1_2_5.out)
  have CX1_3_6 : Hid (w6.cell? ⟨w4.heap.size, 3, none⟩ = some (.slice XA1_3 xs1_3.length xs1_3.length)) := Lib.hid ((G6.out.cell (p := ⟨w4.heap.size, 3, none⟩) (show w4.heap.size < _ from by have := LT5.out; omega)).trans CX1_3_5.out)
  have CX1_4_6 : Hid (w6.cell? ⟨w4.heap.size, 4, none⟩ = some (.slice XA1_4 xs1_4.length xs1_4.length)) := Lib.hid ((G6.out.cell (p := ⟨w4.heap.size, 4, none⟩) (show w4.heap.size < _ from by have := LT5.out; omega)).trans CX1_4_5.out)
  have CX1_5_6 : Hid (w6.cell? ⟨w4.heap.size, 5, none⟩ = some (.slice XA1_5 xs1_5.length xs1_5.length)) := Lib.hid ((G6.out.cell (p := ⟨w4.heap.size, 5, none⟩) (show w4.heap.size < _ from by have := LT5.out; omega)).trans CX1_5_5.out)
  have X0_6 : Hid (Ri w6.heap.size w6 (.slice XA0 xs0.length xs0.length) xs0) := Lib.hid (X0_5.out.at (Nat.le_refl _) G6.out)
  have X1_1_6 : Hid (Ri w6.heap.size w6 (.slice XA1_1 xs1_1.length xs1_1.length) xs1_1) := Lib.hid (X1_1_5.out.at (Nat.le_refl _) G6.out)
  have X1_2_6 : Hid (Ri w6.heap.size w6 (.slice XA1_2 xs1_2.length xs1_2.length) xs1_2) := Lib.hid (X1_2_5.out.at (Nat.le_refl _) G6.out)
  have X1_3_6 : Hid (Ri w6.heap.size w6 (.slice XA1_3 xs1_3.length xs1_3.length) xs1_3) := Lib.hid (X1_3_5.out.at (Nat.le_refl _) G6.out)
  have X1_4_6 : Hid (Ri w6.heap.size w6 (.slice XA1_4 xs1_4.length xs1_4.length) xs1_4) := Lib.hid (X1_4_5.out.at (Nat.le_refl _) G6.out)
  have X1_5_6 : Hid (RiP w6.heap.size w6 (.slice XA1_5 xs1_5.length xs1_5.length) xs1_5) := Lib.hid (X1_5_5.out.at (Nat.le_refl _) G6.out)
  have LT6 : Hid (w.heap.size + 1 ≤ w6.heap.size ∧ w4.heap.size < w6.heap.size) := Lib.hid (by have := LT5.out; have := SZ6.out; omega)
  have qCc1_0_ := Cc1_0_6.out
  have qCc1_1_ := Cc1_1_6.out
  have qCc1_2_ := Cc1_2_6.out
  have qCc1_3_ := Cc1_3_6.out
  have qCc1_4_ := Cc1_4_6.out
  have qCc1_5_ := Cc1_5_6.out
  have qCX1_0_ := CX1_0_6.out
  have qCX1_1_ := CX1_1_6.out
  have qCX1_2_ := CX1_2_6.out
  have qCX1_3_ := CX1_3_6.out
  have qCX1_4_ := CX1_4_6.out
  have qCX1_5_ := CX1_5_6.out
  go_wp2_with fail
  clear qCc1_0_ qCc1_1_ qCc1_2_ qCc1_3_ qCc1_4_ qCc1_5_ qCX1_0_ qCX1_1_ qCX1_2_ qCX1_3_ qCX1_4_ qCX1_5_
  refine (toI_rd (H0.out.at (Nat.le_refl _) HB6.out) (Nat.le_refl _) (by omega)).mono ?_
  rintro e w7 ⟨EA0, rfl, r0, g⟩
  have G7 := Lib.hid g; have SZ7 := Lib.hid g.size; clear g
  have E0_7 : Hid (Ri w7.heap.size w7 (.slice EA0 xs0.length xs0.length) xs0) := Lib.hid r0; clear r0
  have HB7 : Hid (Below w.heap.size w w7) := Lib.hid (HB6.out.trans (G7.out.mono HB6.out.size))
  have Cc1_0_7 : Hid (w7.cell? ⟨w.heap.size, 0, none⟩ = some (.int .i64 n1_0)) := Lib.hid ((G7.out.cell (p := ⟨w.heap.size, 0, none⟩) (show w.heap.size < _ from by have := LT6.out; omega)).trans Cc1_0_6.out)
  have Cc1_1_7 : Hid (w7.cell? ⟨w.heap.size, 1, none⟩ = some (.slice A1_1 xs1_1.length c1_1)) := Lib.hid ((G7.out.cell (p := ⟨w.heap.size, 1, none⟩) (show w.heap.size < _ from by have := LT6.out; omega)).trans Cc1_1_6.out)
  have Cc1_2_7 : Hid (w7.cell? ⟨w.heap.size, 2, none⟩ = some (.slice A1_2 xs1_2.length c1_2)) := Lib.hid ((G7.out.cell (p := ⟨w.heap.size, 2, none⟩) (show w.heap.size < _ from by have := LT6.out; omega)).trans Cc1_2_6.out)
  have Cc1_3_7 : Hid (w7.cell? ⟨w.heap.size, 3, none⟩ = some (.slice A1_3 xs1_3.length c1_3)) := Lib.hid ((G7.out.cell (p := ⟨w.heap.size, 3, none⟩) (show w.heap.size < _ from by have := LT6.out; omega)).trans Cc1_3_6.out)
  have Cc1_4_7 : Hid (w7.cell? ⟨w.heap.size, 4, none⟩ = some (.slice A1_4 xs1_4.length c1_4)) := Lib.hid ((G7.out.cell (p := ⟨w.heap.size, 4, none⟩) (show w.heap.size < _ from by have := LT6.out; omega)).trans Cc1_4_6.out)
  have Cc1_5_7 : Hid (w7.cell? ⟨w.heap.size, 5, none⟩ = some (.slice A1_5 xs1_5.length c1_5)) := Lib.hid ((G7.out.cell (p := ⟨w.heap.size, 5, none⟩) (show w.heap.size < _ from by have := LT6.out; omega)).trans Cc1_5_6.out)
  have CX1_0_7 : Hid (w7.cell? ⟨w4.heap.size, 0, none⟩ = some (.int .i64 n1_0)) := Lib.hid ((G7.out.cell (p := ⟨w4.heap.size, 0, none⟩) (show w4.heap.size < _ from by have := LT6.out; omega)).trans CX1_0_6.out)
  have CX1_1_7 : Hid (w7.cell? ⟨w4.heap.size, 1, none⟩ = some (.slice XA1_1 xs1_1.length xs1_1.length)) := Lib.hid ((G7.out.cell (p := ⟨w4.heap.size, 1, none⟩) (show w4.heap.size < _ from by have := LT6.out; omega)).trans CX1_1_6.out)
  have CX1_2_7 : Hid (w7.cell? ⟨w4.heap.size, 2, none⟩ = some (.slice XA1_2 xs1_2.length xs1_2.length)) := Lib.hid ((G7.out.cell (p := ⟨w4.heap.size, 2, none⟩) (show w4.heap.size < _ from by have := LT6.out; omega)).trans CX1_2_6.out)
  have CX1_3_7 : Hid (w7.cell? ⟨w4.heap.size, 3, none⟩ = some (.slice XA1_3 xs1_3.length xs1_3.length)) := Lib.hid ((G7.out.cell (p := ⟨w4.heap.size, 3, none⟩) (show w4.heap.size < _ from by have := LT6.out; omega)).trans CX1_3_6.out)
  have CX1_4_7 : Hid (w7.cell? ⟨w4.heap.size, 4, none⟩ = some (.slice XA1_4 xs1_4.length xs1_4.length)) := Lib.hid ((G7.out.cell (p := ⟨w4.heap.size, 4, none⟩) (show w4.heap.size < _ from by have := LT6.out; omega)).trans CX1_4_6.out)
  have CX1_5_7 : Hid (w7.cell? ⟨w4.heap.size, 5, none⟩ = some (.slice XA1_5 xs1_5.length xs1_5.length)) := Lib.hid ((G7.out.cell (p := ⟨w4.heap.size, 5, none⟩) (show w4.heap.size < _ from by have := LT6.out; omega)).trans CX1_5_6.out)
  have X0_7 : Hid (Ri w7.heap.size w7 (.slice XA0 xs0.length xs0.length) xs0) := Lib.hid (X0_6.out.at (Nat.le_refl _) G7.out)
  have X1_1_7 : Hid (Ri w7.heap.size w7 (.slice XA1_1 xs1_1.length xs1_1.length) xs1_1) := Lib.hid (X1_1_6.out.at (Nat.le_refl _) G7.out)
  have X1_2_7 : Hid (Ri w7.heap.size w7 (.slice XA1_2 xs1_2.length xs1_2.length) xs1_2) := Lib.hid (X1_2_6.out.at (Nat.le_refl _) G7.out)
  have X1_3_7 : Hid (Ri w7.heap.size w7 (.slice XA1_3 xs1_3.length xs1_3.length) xs1_3) := Lib.hid (X1_3_6.out.at (Nat.le_refl _) G7.out)
  have X1_4_7 : Hid (Ri w7.heap.size w7 (.slice XA1_4 xs1_4.length xs1_4.length) xs1_4) := Lib.hid (X1_4_6.out.at (Nat.le_refl _) G7.out)
  have X1_5_7 : Hid (RiP w7.heap.size w7 (.slice XA1_5 xs1_5.length xs1_5.length) xs1_5) := Lib.hid (X1_5_6.out.at (Nat.le_refl _) G7.out)
  have LT7 : Hid (w.heap.size + 1 ≤ w7.heap.size ∧ w4.heap.size < w7.heap.size) := Lib.hid (by have := LT6.out; have := SZ7.out; omega)
  have qCc1_0_ := Cc1_0_7.out
  have qCc1_1_ := Cc1_1_7.out
  have qCc1_2_ := Cc1_2_7.out
  have qCc1_3_ := Cc1_3_7.out
  have qCc1_4_ := Cc1_4_7.out
  have qCc1_5_ := Cc1_5_7.out
  have qCX1_0_ := CX1_0_7.out
  have qCX1_1_ := CX1_1_7.out
  have qCX1_2_ := CX1_2_7.out
  have qCX1_3_ := CX1_3_7.out
  have qCX1_4_ := CX1_4_7.out
  have qCX1_5_ := CX1_5_7.out
  go_wp2_with fail
  clear qCc1_0_ qCc1_1_ qCc1_2_ qCc1_3_ qCc1_4_ qCc1_5_ qCX1_0_ qCX1_1_ qCX1_2_ qCX1_3_ qCX1_4_ qCX1_5_
  refine (eqI_any X0_7.out E0_7.out (Nat.le_refl _)).mono ?_
  rintro e w8 ⟨rfl, g⟩
  have G8 := Lib.hid g; have SZ8 := Lib.hid g.size; clear g
  have HB8 : Hid (Below w.heap.size w w8) := Lib.hid (HB7.out.trans (G8.out.mono HB7.out.size))
  have Cc1_0_8 : Hid (w8.cell? ⟨w.heap.size, 0, none⟩ = some (.int .i64 n1_0)) := Lib.hid ((G8.out.cell (p := ⟨w.heap.size, 0, none⟩) (show w.heap.size < _ from by have := LT7.out; omega)).trans Cc1_0_7.out)
  have Cc1_1_8 : Hid (w8.cell? ⟨w.heap.size, 1, none⟩ = some (.slice A1_1 xs1_1.length c1_1)) := Lib.hid ((G8.out.cell (p := ⟨w.heap.size, 1, none⟩) (show w.heap.size < _ from by have := LT7.out; omega)).trans Cc1_1_7.out)
  have Cc1_2_8 : Hid (w8.cell? ⟨w.heap.size, 2, none⟩ = some (.slice A1_2 xs1_2.length c1_2)) := Lib.hid ((G8.out.cell (p := ⟨w.heap.size, 2, none⟩) (show w.heap.size < _ from by have := LT7.out; omega)).trans Cc1_2_7.out)
  have Cc1_3_8 : Hid (w8.cell? ⟨w.heap.size, 3, none⟩ = some (.slice A1_3 xs1_3.length c1_3)) := Lib.hid ((G8.out.cell (p := ⟨w.heap.size, 3, none⟩) (show w.heap.size < _ from by have := LT7.out; omega)).trans Cc1_3_7.out)
  have Cc1_4_8 : Hid (w8.cell? ⟨w.heap.size, 4, none⟩ = some (.slice A1_4 xs1_4.length c1_4)) := Lib.hid ((G8.out.cell (p := ⟨w.heap.size, 4, none⟩) (show w.heap.size < _ from by have := LT7.out; omega)).trans Cc1_4_7.out)
  have Cc1_5_8 : Hid (w8.cell? ⟨w.heap.size, 5, none⟩ = some (.slice A1_5 xs1_5.length c1_5)) := Lib.hid ((G8.out.cell (p := ⟨w.heap.size, 5, none⟩) (show w.heap.size < _ from by have := LT7.out; omega)).trans Cc1_5_7.out)
  have CX1_0_8 : Hid (w8.cell? ⟨w4.heap.size, 0, none⟩ = some (.int .i64 n1_0)) := Lib.hid ((G8.out.cell (p := ⟨w4.heap.size, 0, none⟩) (show w4.heap.size < _ from by have := LT7.out; omega)).trans CX1_0_7.out)
  have CX1_1_8 : Hid (w8.cell? ⟨w4.heap.size, 1, none⟩ = some (.slice XA1_1 xs1_1.length xs1_1.length)) := Lib.hid ((G8.out.cell (p := ⟨w4.heap.size, 1, none⟩) (show w4.heap.size < _ from by have := LT7.out; omega)).trans CX1_1_7.out)
  have CX1_2_8 : Hid (w8.cell? ⟨w4.heap.size, 2, none⟩ = some (.slice XA1_2 xs1_2.length xs1_2.length)) := Lib.hid ((G8.out.cell (p := ⟨w4.heap.size, 2, none⟩) (show w4.heap.size < _ from by have := LT7.out; omega)).trans CX1_2_7.out)
  have CX1_3_8 : Hid (w8.cell? ⟨w4.heap.size, 3, none⟩ = some (.slice XA1_3 xs1_3.length xs1_3.length)) := Lib.hid ((G8.out.cell (p := ⟨w4.heap.size, 3, none⟩) (show w4.heap.size < _ from by have := LT7.out; omega)).trans CX1_3_7.out)
  have CX1_4_8 : Hid (w8.cell? ⟨w4.heap.size, 4, none⟩ = some (.slice XA1_4 xs1_4.length xs1_4.length)) := Lib.hid ((G8.out.cell (p := ⟨w4.heap.size, 4, none⟩) (show w4.heap.size < _ from by have := LT7.out; omega)).trans CX1_4_7.out)
  have CX1_5_8 : Hid (w8.cell? ⟨w4.heap.size, 5, none⟩ = some (.slice XA1_5 xs1_5.length xs1_5.length)) := Lib.hid ((G8.out.cell (p := ⟨w4.heap.size, 5, none⟩) (show w4.heap.size < _ from by have := LT7.out; omega)).trans CX1_5_7.out)
  have X0_8 : Hid (Ri w8.heap.size w8 (.slice XA0 xs0.length xs0.length) xs0) := Lib.hid (X0_7.out.at (Nat.le_refl _) G8.out)
  have X1_1_8 : Hid (Ri w8.heap.size w8 (.slice XA1_1 xs1_1.length xs1_1.length) xs1_1) := Lib.hid (X1_1_7.out.at (Nat.le_refl _) G8.out)
  have X1_2_8 : Hid (Ri w8.heap.size w8 (.slice XA1_2 xs1_2.length xs1_2.length) xs1_2) := Lib.hid (X1_2_7.out.at (Nat.le_refl _) G8.out)
  have X1_3_8 : Hid (Ri w8.heap.size w8 (.slice XA1_3 xs1_3.length xs1_3.length) xs1_3) := Lib.hid (X1_3_7.out.at (Nat.le_refl _) G8.out)
  have X1_4_8 : Hid (Ri w8.heap.size w8 (.slice XA1_4 xs1_4.length xs1_4.length) xs1_4) := Lib.hid (X1_4_7.out.at (Nat.le_refl _) G8.out)
  have X1_5_8 : Hid (RiP w8.heap.size w8 (.slice XA1_5 xs1_5.length xs1_5.length) xs1_5) := Lib.hid (X1_5_7.out.at (Nat.le_refl _) G8.out)
  have E0_8 : Hid (Ri w8.heap.size w8 (.slice EA0 xs0.length xs0.length) xs0) := Lib.hid (E0_7.out.at (Nat.le_refl _) G8.out)
  have LT8 : Hid (w.heap.size + 1 ≤ w8.heap.size ∧ w4.heap.size < w8.heap.size) := Lib.hid (by have := LT7.out; have := SZ8.out; omega)
  have HSe1 : Hid (∀ W, Below w8.heap.size w8 W → W.cell? ⟨w.heap.size, 0, none⟩ = some (.int .i64 n1_0) ∧ W.cell? ⟨w.heap.size, 1, none⟩ = some (.slice A1_1 xs1_1.length c1_1) ∧ W.cell? ⟨w.heap.size, 2, none⟩ = some (.slice A1_2 xs1_2.length c1_2) ∧ W.cell? ⟨w.heap.size, 3, none⟩ = some (.slice A1_3 xs1_3.length c1_3) ∧ W.cell? ⟨w.heap.size, 4, none⟩ = some (.slice A1_4 xs1_4.length c1_4) ∧ W.cell? ⟨w.heap.size, 5, none⟩ = some (.slice A1_5 xs1_5.length c1_5) ∧ W.cell? ⟨w4.heap.size, 0, none⟩ = some (.int .i64 n1_0) ∧ W.cell? ⟨w4.heap.size, 1, none⟩ = some (.slice XA1_1 xs1_1.length xs1_1.length) ∧ W.cell? ⟨w4.heap.size, 2, none⟩ = some (.slice XA1_2 xs1_2.length xs1_2.length) ∧ W.cell? ⟨w4.heap.size, 3, none⟩ = some (.slice XA1_3 xs1_3.length xs1_3.length) ∧ W.cell? ⟨w4.heap.size, 4, none⟩ = some (.slice XA1_4 xs1_4.length xs1_4.length) ∧ W.cell? ⟨w4.heap.size, 5, none⟩ = some (.slice XA1_5 xs1_5.length xs1_5.length)) := Lib.hid (fun W hW => ⟨(hW.cell (p := ⟨w.heap.size, 0, none⟩) (show w.heap.size < _ from by have := LT8.out; omega)).trans Cc1_0_8.out, (hW.cell (p := ⟨w.heap.size, 1, none⟩) (show w.heap.size < _ from by have := LT8.out; omega)).trans Cc1_1_8.out, (hW.cell (p := ⟨w.heap.size, 2, none⟩) (show w.heap.size < _ from by have := LT8.out; omega)).trans Cc1_2_8.out, (hW.cell (p := ⟨w.heap.size, 3, none⟩) (show w.heap.size < _ from by have := LT8.out; omega)).trans Cc1_3_8.out, (hW.cell (p := ⟨w.heap.size, 4, none⟩) (show w.heap.size < _ from by have := LT8.out; omega)).trans Cc1_4_8.out, (hW.cell (p := ⟨w.heap.size, 5, none⟩) (show w.heap.size < _ from by have := LT8.out; omega)).trans Cc1_5_8.out, (hW.cell (p := ⟨w4.heap.size, 0, none⟩) (show w4.heap.size < _ from by have := LT8.out; omega)).trans CX1_0_8.out, (hW.cell (p := ⟨w4.heap.size, 1, none⟩) (show w4.heap.size < _ from by have := LT8.out; omega)).trans CX1_1_8.out, (hW.cell (p := ⟨w4.heap.size, 2, none⟩) (show w4.heap.size < _ from by have := LT8.out; omega)).trans CX1_2_8.out, (hW.cell (p := ⟨w4.heap.size, 3, none⟩) (show w4.heap.size < _ from by have := LT8.out; omega)).trans CX1_3_8.out, (hW.cell (p := ⟨w4.heap.size, 4, none⟩) (show w4.heap.size < _ from by have := LT8.out; omega)).trans CX1_4_8.out, (hW.cell (p := ⟨w4.heap.size, 5, none⟩) (show w4.heap.size < _ from by have := LT8.out; omega)).trans CX1_5_8.out⟩)
  have HBd : Hid (Below w.heap.size w w8.drew) := Lib.hid HB8.out.drew
  have qCc1_0_ := Cc1_0_8.out
  have qCc1_1_ := Cc1_1_8.out
  have qCc1_2_ := Cc1_2_8.out
  have qCc1_3_ := Cc1_3_8.out
  have qCc1_4_ := Cc1_4_8.out
  have qCc1_5_ := Cc1_5_8.out
  have qCX1_0_ := CX1_0_8.out
  have qCX1_1_ := CX1_1_8.out
  have qCX1_2_ := CX1_2_8.out
  have qCX1_3_ := CX1_3_8.out
  have qCX1_4_ := CX1_4_8.out
  have qCX1_5_ := CX1_5_8.out
  go_wp2
  clear qCc1_0_ qCc1_1_ qCc1_2_ qCc1_3_ qCc1_4_ qCc1_5_ qCX1_0_ qCX1_1_ qCX1_2_ qCX1_3_ qCX1_4_ qCX1_5_
  go_region_held3 (fun W => W.cell? ⟨w.heap.size, 0, none⟩ = some (.int .i64 n1_0) ∧ W.cell? ⟨w.heap.size, 1, none⟩ = some (.slice A1_1 xs1_1.length c1_1) ∧ W.cell? ⟨w.heap.size, 2, none⟩ = some (.slice A1_2 xs1_2.length c1_2) ∧ W.cell? ⟨w.heap.size, 3, none⟩ = some (.slice A1_3 xs1_3.length c1_3) ∧ W.cell? ⟨w.heap.size, 4, none⟩ = some (.slice A1_4 xs1_4.length c1_4) ∧ W.cell? ⟨w.heap.size, 5, none⟩ = some (.slice A1_5 xs1_5.length c1_5) ∧ W.cell? ⟨w4.heap.size, 0, none⟩ = some (.int .i64 n1_0) ∧ W.cell? ⟨w4.heap.size, 1, none⟩ = some (.slice XA1_1 xs1_1.length xs1_1.length) ∧ W.cell? ⟨w4.heap.size, 2, none⟩ = some (.slice XA1_2 xs1_2.length xs1_2.length) ∧ W.cell? ⟨w4.heap.size, 3, none⟩ = some (.slice XA1_3 xs1_3.length xs1_3.length) ∧ W.cell? ⟨w4.heap.size, 4, none⟩ = some (.slice XA1_4 xs1_4.length xs1_4.length) ∧ W.cell? ⟨w4.heap.size, 5, none⟩ = some (.slice XA1_5 xs1_5.length xs1_5.length)) (exact HSe1.out _ (by first | exact kbe11 | exact kbe10 | exact (Below.refl _ _).drew))
    ((first | (go_at_call 13; go_fit (toSel_rd (H1_1.out.at (Nat.le_refl _) (HB8.out.trans (((Below.refl _ _).drew).mono HB8.out.size))) (H1_2.out.at (Nat.le_refl _) (HB8.out.trans (((Below.refl _ _).drew).mono HB8.out.size))) (H1_3.out.at (Nat.le_refl _) (HB8.out.trans (((Below.refl _ _).drew).mono HB8.out.size))) (H1_4.out.at (Nat.le_refl _) (HB8.out.trans (((Below.refl _ _).drew).mono HB8.out.size))) (H1_5.out.at (Nat.le_refl _) (HB8.out.trans (((Below.refl _ _).drew).mono HB8.out.size))) (Nat.le_refl _) SM1.out); rintro e ue10 ⟨EA1_1, EA1_2, EA1_3, EA1_4, EA1_5, rfl, r1_1, r1_2, r1_3, r1_4, r1_5, ge10⟩; have E1_1d := Lib.hid r1_1; clear r1_1; have E1_2d := Lib.hid r1_2; clear r1_2; have E1_3d := Lib.hid r1_3; clear r1_3; have E1_4d := Lib.hid r1_4; clear r1_4; have E1_5d := Lib.hid r1_5; clear r1_5; have kbe10 : Below w8.heap.size w8 ue10 := ((Below.refl _ _).drew.trans ge10)) | (go_at_call 15; go_fit (eqSel_any (X1_1_8.out.at (Nat.le_refl _) (kbe10)) (X1_2_8.out.at (Nat.le_refl _) (kbe10)) (X1_3_8.out.at (Nat.le_refl _) (kbe10)) (X1_4_8.out.at (Nat.le_refl _) (kbe10)) (X1_5_8.out.at (Nat.le_refl _) (kbe10)) E1_1d.out E1_2d.out E1_3d.out E1_4d.out E1_5d.out (Nat.le_refl _)); rintro e w9 ⟨rfl, ge11⟩; have kbe11 : Below w8.heap.size w8 w9 := (kbe10.trans (ge11.mono kbe10.size)))))
  try simp only [Exit.then]
  have SZ9 := Lib.hid kbe11.size; have G9 := Lib.hid kbe11
  have HB9 : Hid (Below w.heap.size w w9) := Lib.hid (HB8.out.trans (G9.out.mono HB8.out.size))
  have Cc1_0_9 : Hid (w9.cell? ⟨w.heap.size, 0, none⟩ = some (.int .i64 n1_0)) := Lib.hid ((G9.out.cell (p := ⟨w.heap.size, 0, none⟩) (show w.heap.size < _ from by have := LT8.out; omega)).trans Cc1_0_8.out)
  have Cc1_1_9 : Hid (w9.cell? ⟨w.heap.size, 1, none⟩ = some (.slice A1_1 xs1_1.length c1_1)) := Lib.hid ((G9.out.cell (p := ⟨w.heap.size, 1, none⟩) (show w.heap.size < _ from by have := LT8.out; omega)).trans Cc1_1_8.out)
  have Cc1_2_9 : Hid (w9.cell? ⟨w.heap.size, 2, none⟩ = some (.slice A1_2 xs1_2.length c1_2)) := Lib.hid ((G9.out.cell (p := ⟨w.heap.size, 2, none⟩) (show w.heap.size < _ from by have := LT8.out; omega)).trans Cc1_2_8.out)
  have Cc1_3_9 : Hid (w9.cell? ⟨w.heap.size, 3, none⟩ = some (.slice A1_3 xs1_3.length c1_3)) := Lib.hid ((G9.out.cell (p := ⟨w.heap.size, 3, none⟩) (show w.heap.size < _ from by have := LT8.out; omega)).trans Cc1_3_8.out)
  have Cc1_4_9 : Hid (w9.cell? ⟨w.heap.size, 4, none⟩ = some (.slice A1_4 xs1_4.length c1_4)) := Lib.hid ((G9.out.cell (p := ⟨w.heap.size, 4, none⟩) (show w.heap.size < _ from by have := LT8.out; omega)).trans Cc1_4_8.out)
  have Cc1_5_9 : Hid (w9.cell? ⟨w.heap.size, 5, none⟩ = some (.slice A1_5 xs1_5.length c1_5)) := Lib.hid ((G9.out.cell (p := ⟨w.heap.size, 5, none⟩) (show w.heap.size < _ from by have := LT8.out; omega)).trans Cc1_5_8.out)
  have CX1_0_9 : Hid (w9.cell? ⟨w4.heap.size, 0, none⟩ = some (.int .i64 n1_0)) := Lib.hid ((G9.out.cell (p := ⟨w4.heap.size, 0, none⟩) (show w4.heap.size < _ from by have := LT8.out; omega)).trans CX1_0_8.out)
  have CX1_1_9 : Hid (w9.cell? ⟨w4.heap.size, 1, none⟩ = some (.slice XA1_1 xs1_1.length xs1_1.length)) := Lib.hid ((G9.out.cell (p := ⟨w4.heap.size, 1, none⟩) (show w4.heap.size < _ from by have := LT8.out; omega)).trans CX1_1_8.out)
  have CX1_2_9 : Hid (w9.cell? ⟨w4.heap.size, 2, none⟩ = some (.slice XA1_2 xs1_2.length xs1_2.length)) := Lib.hid ((G9.out.cell (p := ⟨w4.heap.size, 2, none⟩) (show w4.heap.size < _ from by have := LT8.out; omega)).trans CX1_2_8.out)
  have CX1_3_9 : Hid (w9.cell? ⟨w4.heap.size, 3, none⟩ = some (.slice XA1_3 xs1_3.length xs1_3.length)) := Lib.hid ((G9.out.cell (p := ⟨w4.heap.size, 3, none⟩) (show w4.heap.size < _ from by have := LT8.out; omega)).trans CX1_3_8.out)
  have CX1_4_9 : Hid (w9.cell? ⟨w4.heap.size, 4, none⟩ = some (.slice XA1_4 xs1_4.length xs1_4.length)) := Lib.hid ((G9.out.cell (p := ⟨w4.heap.size, 4, none⟩) (show w4.heap.size < _ from by have := LT8.out; omega)).trans CX1_4_8.out)
  have CX1_5_9 : Hid (w9.cell? ⟨w4.heap.size, 5, none⟩ = some (.slice XA1_5 xs1_5.length xs1_5.length)) := Lib.hid ((G9.out.cell (p := ⟨w4.heap.size, 5, none⟩) (show w4.heap.size < _ from by have := LT8.out; omega)).trans CX1_5_8.out)
  have X0_9 : Hid (Ri w9.heap.size w9 (.slice XA0 xs0.length xs0.length) xs0) := Lib.hid (X0_8.out.at (Nat.le_refl _) G9.out)
  have X1_1_9 : Hid (Ri w9.heap.size w9 (.slice XA1_1 xs1_1.length xs1_1.length) xs1_1) := Lib.hid (X1_1_8.out.at (Nat.le_refl _) G9.out)
  have X1_2_9 : Hid (Ri w9.heap.size w9 (.slice XA1_2 xs1_2.length xs1_2.length) xs1_2) := Lib.hid (X1_2_8.out.at (Nat.le_refl _) G9.out)
  have X1_3_9 : Hid (Ri w9.heap.size w9 (.slice XA1_3 xs1_3.length xs1_3.length) xs1_3) := Lib.hid (X1_3_8.out.at (Nat.le_refl _) G9.out)
  have X1_4_9 : Hid (Ri w9.heap.size w9 (.slice XA1_4 xs1_4.length xs1_4.length) xs1_4) := Lib.hid (X1_4_8.out.at (Nat.le_refl _) G9.out)
  have X1_5_9 : Hid (RiP w9.heap.size w9 (.slice XA1_5 xs1_5.length xs1_5.length) xs1_5) := Lib.hid (X1_5_8.out.at (Nat.le_refl _) G9.out)
  have LT9 : Hid (w.heap.size + 1 ≤ w9.heap.size ∧ w4.heap.size < w9.heap.size) := Lib.hid (by have := LT8.out; have := SZ9.out; omega)
  have qCc1_0_ := Cc1_0_9.out
  have qCc1_1_ := Cc1_1_9.out
  have qCc1_2_ := Cc1_2_9.out
  have qCc1_3_ := Cc1_3_9.out
  have qCc1_4_ := Cc1_4_9.out
  have qCc1_5_ := Cc1_5_9.out
  have qCX1_0_ := CX1_0_9.out
  have qCX1_1_ := CX1_1_9.out
  have qCX1_2_ := CX1_2_9.out
  have qCX1_3_ := CX1_3_9.out
  have qCX1_4_ := CX1_4_9.out
  have qCX1_5_ := CX1_5_9.out
  go_wp2_with fail
  clear qCc1_0_ qCc1_1_ qCc1_2_ qCc1_3_ qCc1_4_ qCc1_5_ qCX1_0_ qCX1_1_ qCX1_2_ qCX1_3_ qCX1_4_ qCX1_5_
  go_ret
  exact ⟨rfl, HB9.out⟩
theorem own : ownKnob Try.prog.godebug = none := by kernel_rfl
theorem laidOut : laidOutB Try.prog = true := by kernel_rfl
set_option maxRecDepth 100000 in
theorem lifted (os : Os) (started : os.Started) (H : Type) (enc : TypeId × Value → H) :
    ReturnsInHanded {} Try.checked os 6 .any (Rows.fnExactSelectedCountSpec.pre6 enc Try.prog Try.f6 Rows.fnExactSelectedCountRow.domain false) (Rows.fnExactSelectedCountSpec.post enc Try.prog Try.f6 false true false false) := by
  refine returnsInHanded_of_change (C := Try.checked) own started (by kernel_rfl) Try.func6
    (ChangeSpec.witness6 (enc := enc) (C := Try.checked) false ⟨#[], #[.slice none 0 0, .agg #[.int .i64 0, .slice none 0 0, .slice none 0 0, .slice none 0 0, .slice none 0 0, .slice none 0 0]], []⟩ 8 (by kernel_rfl) (by kernel_rfl) (by kernel_rfl) (by kernel_rfl)) ?_
  intro W base args ds gs before hval0 hW hcnd _
  have hval : ∀ (j : Nat) t v, Try.f6.params[j]? = some t → args[j]? = some v → Value.okWide Try.prog W .any base t v := hval0
  have hW' := hW
  obtain ⟨p, q, hA0, hV, rfl, hfz, hnd⟩ := hW
  have hA : DataW.TrodAll enc Try.prog W 0 (fun _ => true) true Try.f6.params.toList args.toList ds p := hA0
  rw [Try.params6] at hA hval
  obtain ⟨v0, vs0, d0, ds0, p0, q0, hargs, rfl, rfl, h0, r0⟩ := trodAll_cons hA
  obtain ⟨v1, vs1, d1, ds1, p1, q1, rfl, rfl, rfl, h1, r1⟩ := trodAll_cons r0
  obtain ⟨rfl, rfl, rfl⟩ := trodAll_nil r1
  obtain rfl : args = #[v0, v1] := by cases args; simp_all
  obtain ⟨rfl, rfl⟩ := trodVars_none hV
  have k0 := h0
  have lt0 : ∀ x ∈ p0, x.block < W.heap.size := by obtain ⟨m, hm⟩ := k0; exact DataW.trod_lt m _ _ _ hm
  obtain ⟨xs0, g0⟩ := open_i (hval 0 22 v0 rfl rfl) h0
  have k1 := h1
  have lt1 : ∀ x ∈ p1, x.block < W.heap.size := by obtain ⟨m, hm⟩ := k1; exact DataW.trod_lt m _ _ _ hm
  obtain ⟨n1_0, v1_1, xs1_1, v1_2, xs1_2, v1_3, xs1_3, v1_4, xs1_4, v1_5, xs1_5, rfl, g1_0, g1_1, g1_2, g1_3, g1_4, g1_5⟩ := open_sel (hval 1 25 v1 rfl rfl) h1
  clear hA0 hval0
  refine (walk W _ _ _ _ _ _ _ _ _ _ _ _ _ g0 g1_0 g1_1 g1_2 g1_3 g1_4 g1_5).mono fun e W' ⟨he, bel⟩ => ?_
  subst he
  exact ⟨_, rfl, _, _, _, [], _, [], hW', (trodAll_cons_mk (shut_bool Try.underlying4 _) trodAll_mk0), (trodAll_cons_mk (Below.trod laidOut (by kernel_rfl) (of_decide_eq_true (by kernel_rfl)) k0 bel lt0) (trodAll_cons_mk (Below.trod laidOut (by kernel_rfl) (of_decide_eq_true (by kernel_rfl)) k1 bel lt1) trodAll_mk0)), rfl, bel.frame _, fun h => by cases h⟩
theorem over : Rows.fnExactSelectedCountRow.holds Try.pinned (OpenSpec.ofChange Rows.fnExactSelectedCountSpec) :=
  OpenClaim.holds_of_wide 6 Try.f6 rfl rfl rfl rfl rfl rfl rfl ⟨rfl, rfl, rfl, rfl, rfl⟩ rfl rfl rfl rfl rfl (by kernel_rfl) Try.func6 (by kernel_rfl)
    (of_decide_eq_true (by kernel_rfl)) (by unfold Func.isWrapper; rw [if_neg (of_decide_eq_false (by kernel_rfl))]; exact ⟨rfl, rfl⟩)
    (fun os started H enc _ => lifted os started H enc)
theorem proved : Rows.FnExactSelectedCountSaid := over
end Go.Proofs.Ytkgkhdnpgcgoeaa.fnExactSelectedCount
