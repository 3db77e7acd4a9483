/- The statement of the law FnExactFreeCount: whatever the input, the program's function answers as the model's, and the input reads as it did. Its conditions are the given statement's own; nothing is added. -/
import Derived.Test.YtlickjmdlooapaaJf
import Derived.Test.YtlickjmdlooapaaFrm
import Derived.Test.YtlickjmdlooapaaFrmP
import Derived.ProofKit
import Derived.OpenShut
import Derived.ShutString
import Derived.ChangeOld
import Derived.Below
import Derived.Deep.DeepFit
import Derived.Deep.WholeRow
import Derived.Deep.RegionHeld3
namespace Go.Proofs.Ytlickjmdlooapaa.fnExactFreeCount
open Go.ChangeShapes Go.WideShapes Go.ChangeAt Go.RowKit
open Go.ChangeMaps (open_string shut_string)
set_option linter.unusedVariables false
set_option maxHeartbeats 4000000 in
set_option maxRecDepth 100000 in
theorem walk (w : World) (v0_0 : Value) (xs0_0 : List ByteArray) (v0_1 : Value) (xs0_1 : List Pt) (n0_2 : Int) (n0_3 : Bool) (n0_4 : Int) (n0_5 : Int) (n0_6 : Int) (n0_7 : Int) (n0_8 : Int) (n0_9 : Int) (v0_10 : Value) (xs0_10 : List Pt) (v0_11 : Value) (xs0_11 : List Pt) (h0_0 : RiT w.heap.size w v0_0 xs0_0) (h0_1 : RiU w.heap.size w v0_1 xs0_1) (h0_2 : InI n0_2) (h0_4 : InI n0_4) (h0_5 : InI n0_5) (h0_6 : InI n0_6) (h0_7 : InI n0_7) (h0_8 : InI n0_8) (h0_9 : InI n0_9) (h0_10 : RiU w.heap.size w v0_10 xs0_10) (h0_11 : RiU w.heap.size w v0_11 xs0_11) :
    Calls Try.prog 6 #[.agg #[v0_0, v0_1, .int .i64 n0_2, .bool n0_3, .int .i64 n0_4, .int .i64 n0_5, .int .i64 n0_6, .int .i64 n0_7, .int .i64 n0_8, .int .i64 n0_9, v0_10, v0_11]] w (GivesB (.bool true) w) := by
  have H0_0 := Lib.hid h0_0; obtain ⟨A0_0, c0_0, rfl, _⟩ := h0_0
  have H0_1 := Lib.hid h0_1; obtain ⟨A0_1, c0_1, rfl, _⟩ := h0_1
  have N0_2 := Lib.hid h0_2; clear h0_2
  have N0_4 := Lib.hid h0_4; clear h0_4
  have N0_5 := Lib.hid h0_5; clear h0_5
  have N0_6 := Lib.hid h0_6; clear h0_6
  have N0_7 := Lib.hid h0_7; clear h0_7
  have N0_8 := Lib.hid h0_8; clear h0_8
  have N0_9 := Lib.hid h0_9; clear h0_9
  have H0_10 := Lib.hid h0_10; obtain ⟨A0_10, c0_10, rfl, _⟩ := h0_10
  have H0_11 := Lib.hid h0_11; obtain ⟨A0_11, c0_11, rfl, _⟩ := h0_11
  have HB0 : Hid (Below w.heap.size w (w.alloc (.cells #[.slice A0_0 xs0_0.length c0_0, .slice A0_1 xs0_1.length c0_1, .int .i64 n0_2, .bool n0_3, .int .i64 n0_4, .int .i64 n0_5, .int .i64 n0_6, .int .i64 n0_7, .int .i64 n0_8, .int .i64 n0_9, .slice A0_10 xs0_10.length c0_10, .slice A0_11 xs0_11.length c0_11] 32))) := Lib.hid ((Below.refl _ _).alloc (Nat.le_refl _) _)
  have Z0 : Hid ((w.alloc (.cells #[.slice A0_0 xs0_0.length c0_0, .slice A0_1 xs0_1.length c0_1, .int .i64 n0_2, .bool n0_3, .int .i64 n0_4, .int .i64 n0_5, .int .i64 n0_6, .int .i64 n0_7, .int .i64 n0_8, .int .i64 n0_9, .slice A0_10 xs0_10.length c0_10, .slice A0_11 xs0_11.length c0_11] 32)).heap.size = w.heap.size + 1) := Lib.hid (by simp)
  have Cc0_0_0 : Hid ((w.alloc (.cells #[.slice A0_0 xs0_0.length c0_0, .slice A0_1 xs0_1.length c0_1, .int .i64 n0_2, .bool n0_3, .int .i64 n0_4, .int .i64 n0_5, .int .i64 n0_6, .int .i64 n0_7, .int .i64 n0_8, .int .i64 n0_9, .slice A0_10 xs0_10.length c0_10, .slice A0_11 xs0_11.length c0_11] 32)).cell? ⟨w.heap.size, 0, none⟩ = some (.slice A0_0 xs0_0.length c0_0)) := Lib.hid (by
    rw [cell_of_row _ _ _ _ _ _ (heap_alloc_new w _)]; rfl)
  have Cc0_1_0 : Hid ((w.alloc (.cells #[.slice A0_0 xs0_0.length c0_0, .slice A0_1 xs0_1.length c0_1, .int .i64 n0_2, .bool n0_3, .int .i64 n0_4, .int .i64 n0_5, .int .i64 n0_6, .int .i64 n0_7, .int .i64 n0_8, .int .i64 n0_9, .slice A0_10 xs0_10.length c0_10, .slice A0_11 xs0_11.length c0_11] 32)).cell? ⟨w.heap.size, 1, none⟩ = some (.slice A0_1 xs0_1.length c0_1)) := Lib.hid (by
    rw [cell_of_row _ _ _ _ _ _ (heap_alloc_new w _)]; rfl)
  have Cc0_2_0 : Hid ((w.alloc (.cells #[.slice A0_0 xs0_0.length c0_0, .slice A0_1 xs0_1.length c0_1, .int .i64 n0_2, .bool n0_3, .int .i64 n0_4, .int .i64 n0_5, .int .i64 n0_6, .int .i64 n0_7, .int .i64 n0_8, .int .i64 n0_9, .slice A0_10 xs0_10.length c0_10, .slice A0_11 xs0_11.length c0_11] 32)).cell? ⟨w.heap.size, 2, none⟩ = some (.int .i64 n0_2)) := Lib.hid (by
    rw [cell_of_row _ _ _ _ _ _ (heap_alloc_new w _)]; rfl)
  have Cc0_3_0 : Hid ((w.alloc (.cells #[.slice A0_0 xs0_0.length c0_0, .slice A0_1 xs0_1.length c0_1, .int .i64 n0_2, .bool n0_3, .int .i64 n0_4, .int .i64 n0_5, .int .i64 n0_6, .int .i64 n0_7, .int .i64 n0_8, .int .i64 n0_9, .slice A0_10 xs0_10.length c0_10, .slice A0_11 xs0_11.length c0_11] 32)).cell? ⟨w.heap.size, 3, none⟩ = some (.bool n0_3)) := Lib.hid (by
    rw [cell_of_row _ _ _ _ _ _ (heap_alloc_new w _)]; rfl)
  have Cc0_4_0 : Hid ((w.alloc (.cells #[.slice A0_0 xs0_0.length c0_0, .slice A0_1 xs0_1.length c0_1, .int .i64 n0_2, .bool n0_3, .int .i64 n0_4, .int .i64 n0_5, .int .i64 n0_6, .int .i64 n0_7, .int .i64 n0_8, .int .i64 n0_9, .slice A0_10 xs0_10.length c0_10, .slice A0_11 xs0_11.length c0_11] 32)).cell? ⟨w.heap.size, 4, none⟩ = some (.int .i64 n0_4)) := Lib.hid (by
    rw [cell_of_row _ _ _ _ _ _ (heap_alloc_new w _)]; rfl)
  have Cc0_5_0 : Hid ((w.alloc (.cells #[.slice A0_0 xs0_0.length c0_0, .slice A0_1 xs0_1.length c0_1, .int .i64 n0_2, .bool n0_3, .int .i64 n0_4, .int .i64 n0_5, .int .i64 n0_6, .int .i64 n0_7, .int .i64 n0_8, .int .i64 n0_9, .slice A0_10 xs0_10.length c0_10, .slice A0_11 xs0_11.length c0_11] 32)).cell? ⟨w.heap.size, 5, none⟩ = some (.int .i64 n0_5)) := Lib.hid (by
    rw [cell_of_row _ _ _ _ _ _ (heap_alloc_new w _)]; rfl)
  have Cc0_6_0 : Hid ((w.alloc (.cells #[.slice A0_0 xs0_0.length c0_0, .slice A0_1 xs0_1.length c0_1, .int .i64 n0_2, .bool n0_3, .int .i64 n0_4, .int .i64 n0_5, .int .i64 n0_6, .int .i64 n0_7, .int .i64 n0_8, .int .i64 n0_9, .slice A0_10 xs0_10.length c0_10, .slice A0_11 xs0_11.length c0_11] 32)).cell? ⟨w.heap.size, 6, none⟩ = some (.int .i64 n0_6)) := Lib.hid (by
    rw [cell_of_row _ _ _ _ _ _ (heap_alloc_new w _)]; rfl)
  have Cc0_7_0 : Hid ((w.alloc (.cells #[.slice A0_0 xs0_0.length c0_0, .slice A0_1 xs0_1.length c0_1, .int .i64 n0_2, .bool n0_3, .int .i64 n0_4, .int .i64 n0_5, .int .i64 n0_6, .int .i64 n0_7, .int .i64 n0_8, .int .i64 n0_9, .slice A0_10 xs0_10.length c0_10, .slice A0_11 xs0_11.length c0_11] 32)).cell? ⟨w.heap.size, 7, none⟩ = some (.int .i64 n0_7)) := Lib.hid (by
    rw [cell_of_row _ _ _ _ _ _ (heap_alloc_new w _)]; rfl)
  have Cc0_8_0 : Hid ((w.alloc (.cells #[.slice A0_0 xs0_0.length c0_0, .slice A0_1 xs0_1.length c0_1, .int .i64 n0_2, .bool n0_3, .int .i64 n0_4, .int .i64 n0_5, .int .i64 n0_6, .int .i64 n0_7, .int .i64 n0_8, .int .i64 n0_9, .slice A0_10 xs0_10.length c0_10, .slice A0_11 xs0_11.length c0_11] 32)).cell? ⟨w.heap.size, 8, none⟩ = some (.int .i64 n0_8)) := Lib.hid (by
    rw [cell_of_row _ _ _ _ _ _ (heap_alloc_new w _)]; rfl)
  have Cc0_9_0 : Hid ((w.alloc (.cells #[.slice A0_0 xs0_0.length c0_0, .slice A0_1 xs0_1.length c0_1, .int .i64 n0_2, .bool n0_3, .int .i64 n0_4, .int .i64 n0_5, .int .i64 n0_6, .int .i64 n0_7, .int .i64 n0_8, .int .i64 n0_9, .slice A0_10 xs0_10.length c0_10, .slice A0_11 xs0_11.length c0_11] 32)).cell? ⟨w.heap.size, 9, none⟩ = some (.int .i64 n0_9)) := Lib.hid (by
    rw [cell_of_row _ _ _ _ _ _ (heap_alloc_new w _)]; rfl)
  have Cc0_10_0 : Hid ((w.alloc (.cells #[.slice A0_0 xs0_0.length c0_0, .slice A0_1 xs0_1.length c0_1, .int .i64 n0_2, .bool n0_3, .int .i64 n0_4, .int .i64 n0_5, .int .i64 n0_6, .int .i64 n0_7, .int .i64 n0_8, .int .i64 n0_9, .slice A0_10 xs0_10.length c0_10, .slice A0_11 xs0_11.length c0_11] 32)).cell? ⟨w.heap.size, 10, none⟩ = some (.slice A0_10 xs0_10.length c0_10)) := Lib.hid (by
    rw [cell_of_row _ _ _ _ _ _ (heap_alloc_new w _)]; rfl)
  have Cc0_11_0 : Hid ((w.alloc (.cells #[.slice A0_0 xs0_0.length c0_0, .slice A0_1 xs0_1.length c0_1, .int .i64 n0_2, .bool n0_3, .int .i64 n0_4, .int .i64 n0_5, .int .i64 n0_6, .int .i64 n0_7, .int .i64 n0_8, .int .i64 n0_9, .slice A0_10 xs0_10.length c0_10, .slice A0_11 xs0_11.length c0_11] 32)).cell? ⟨w.heap.size, 11, none⟩ = some (.slice A0_11 xs0_11.length c0_11)) := Lib.hid (by
    rw [cell_of_row _ _ _ _ _ _ (heap_alloc_new w _)]; rfl)
  go_enter Try.func6, Try.ntmps6
  go_wp2_with fail
  generalize (w.alloc (.cells #[.slice A0_0 xs0_0.length c0_0, .slice A0_1 xs0_1.length c0_1, .int .i64 n0_2, .bool n0_3, .int .i64 n0_4, .int .i64 n0_5, .int .i64 n0_6, .int .i64 n0_7, .int .i64 n0_8, .int .i64 n0_9, .slice A0_10 xs0_10.length c0_10, .slice A0_11 xs0_11.length c0_11] 32)) = w0 at *
  have LT0 : Hid (w.heap.size + 1 ≤ w0.heap.size) := Lib.hid (by have := Z0.out; omega)
  refine (szPager_any (H0_0.out.at (Nat.le_refl _) HB0.out) (H0_1.out.at (Nat.le_refl _) HB0.out) (H0_10.out.at (Nat.le_refl _) HB0.out) (H0_11.out.at (Nat.le_refl _) HB0.out) (Nat.le_refl _) (1048576) (by omega) (by omega)).mono ?_
  rintro e w1 ⟨l0, rfl, hl0, hL0, hp0, g⟩
  have P0 := Lib.hid hp0; have G1 := Lib.hid g; have SZ1 := Lib.hid g.size; clear hp0 g
  have HB1 : Hid (Below w.heap.size w w1) := Lib.hid (HB0.out.trans (G1.out.mono HB0.out.size))
  have Cc0_0_1 : Hid (w1.cell? ⟨w.heap.size, 0, none⟩ = some (.slice A0_0 xs0_0.length c0_0)) := Lib.hid ((G1.out.cell (p := ⟨w.heap.size, 0, none⟩) (show w.heap.size < _ from by have := LT0.out; omega)).trans Cc0_0_0.out)
  have Cc0_1_1 : Hid (w1.cell? ⟨w.heap.size, 1, none⟩ = some (.slice A0_1 xs0_1.length c0_1)) := Lib.hid ((G1.out.cell (p := ⟨w.heap.size, 1, none⟩) (show w.heap.size < _ from by have := LT0.out; omega)).trans Cc0_1_0.out)
  have Cc0_2_1 : Hid (w1.cell? ⟨w.heap.size, 2, none⟩ = some (.int .i64 n0_2)) := Lib.hid ((G1.out.cell (p := ⟨w.heap.size, 2, none⟩) (show w.heap.size < _ from by have := LT0.out; omega)).trans Cc0_2_0.out)
  have Cc0_3_1 : Hid (w1.cell? ⟨w.heap.size, 3, none⟩ = some (.bool n0_3)) := Lib.hid ((G1.out.cell (p := ⟨w.heap.size, 3, none⟩) (show w.heap.size < _ from by have := LT0.out; omega)).trans Cc0_3_0.out)
  have Cc0_4_1 : Hid (w1.cell? ⟨w.heap.size, 4, none⟩ = some (.int .i64 n0_4)) := Lib.hid ((G1.out.cell (p := ⟨w.heap.size, 4, none⟩) (show w.heap.size < _ from by have := LT0.out; omega)).trans Cc0_4_0.out)
  have Cc0_5_1 : Hid (w1.cell? ⟨w.heap.size, 5, none⟩ = some (.int .i64 n0_5)) := Lib.hid ((G1.out.cell (p := ⟨w.heap.size, 5, none⟩) (show w.heap.size < _ from by have := LT0.out; omega)).trans Cc0_5_0.out)
  have Cc0_6_1 : Hid (w1.cell? ⟨w.heap.size, 6, none⟩ = some (.int .i64 n0_6)) := Lib.hid ((G1.out.cell (p := ⟨w.heap.size, 6, none⟩) (show w.heap.size < _ from by have := LT0.out; omega)).trans Cc0_6_0.out)
  have Cc0_7_1 : Hid (w1.cell? ⟨w.heap.size, 7, none⟩ = some (.int .i64 n0_7)) := Lib.hid ((G1.out.cell (p := ⟨w.heap.size, 7, none⟩) (show w.heap.size < _ from by have := LT0.out; omega)).trans Cc0_7_0.out)
  have Cc0_8_1 : Hid (w1.cell? ⟨w.heap.size, 8, none⟩ = some (.int .i64 n0_8)) := Lib.hid ((G1.out.cell (p := ⟨w.heap.size, 8, none⟩) (show w.heap.size < _ from by have := LT0.out; omega)).trans Cc0_8_0.out)
  have Cc0_9_1 : Hid (w1.cell? ⟨w.heap.size, 9, none⟩ = some (.int .i64 n0_9)) := Lib.hid ((G1.out.cell (p := ⟨w.heap.size, 9, none⟩) (show w.heap.size < _ from by have := LT0.out; omega)).trans Cc0_9_0.out)
  have Cc0_10_1 : Hid (w1.cell? ⟨w.heap.size, 10, none⟩ = some (.slice A0_10 xs0_10.length c0_10)) := Lib.hid ((G1.out.cell (p := ⟨w.heap.size, 10, none⟩) (show w.heap.size < _ from by have := LT0.out; omega)).trans Cc0_10_0.out)
  have Cc0_11_1 : Hid (w1.cell? ⟨w.heap.size, 11, none⟩ = some (.slice A0_11 xs0_11.length c0_11)) := Lib.hid ((G1.out.cell (p := ⟨w.heap.size, 11, none⟩) (show w.heap.size < _ from by have := LT0.out; omega)).trans Cc0_11_0.out)
  have LT1 : Hid (w.heap.size + 1 ≤ w1.heap.size) := Lib.hid (by have := LT0.out; have := SZ1.out; omega)
  by_cases neg0 : l0 < 0
  · skip
    have qCc0_0_ := Cc0_0_1.out
    have qCc0_1_ := Cc0_1_1.out
    have qCc0_2_ := Cc0_2_1.out
    have qCc0_3_ := Cc0_3_1.out
    have qCc0_4_ := Cc0_4_1.out
    have qCc0_5_ := Cc0_5_1.out
    have qCc0_6_ := Cc0_6_1.out
    have qCc0_7_ := Cc0_7_1.out
    have qCc0_8_ := Cc0_8_1.out
    have qCc0_9_ := Cc0_9_1.out
    have qCc0_10_ := Cc0_10_1.out
    have qCc0_11_ := Cc0_11_1.out
    go_wp2_with fail
    go_ret
    exact ⟨rfl, HB1.out⟩
  have SM0 := Lib.hid (P0.out (by omega))
  have qCc0_0_ := Cc0_0_1.out
  have qCc0_1_ := Cc0_1_1.out
  have qCc0_2_ := Cc0_2_1.out
  have qCc0_3_ := Cc0_3_1.out
  have qCc0_4_ := Cc0_4_1.out
  have qCc0_5_ := Cc0_5_1.out
  have qCc0_6_ := Cc0_6_1.out
  have qCc0_7_ := Cc0_7_1.out
  have qCc0_8_ := Cc0_8_1.out
  have qCc0_9_ := Cc0_9_1.out
  have qCc0_10_ := Cc0_10_1.out
  have qCc0_11_ := Cc0_11_1.out
  go_wp2_with fail
  clear qCc0_0_ qCc0_1_ qCc0_2_ qCc0_3_ qCc0_4_ qCc0_5_ qCc0_6_ qCc0_7_ qCc0_8_ qCc0_9_ qCc0_10_ qCc0_11_
  refine (toPager_rd (H0_0.out.at (Nat.le_refl _) HB1.out) (H0_1.out.at (Nat.le_refl _) HB1.out) (H0_10.out.at (Nat.le_refl _) HB1.out) (H0_11.out.at (Nat.le_refl _) HB1.out) (Nat.le_refl _) SM0.out).mono ?_
  rintro e w2 ⟨SA0_0, SA0_1, SA0_10, SA0_11, rfl, r0_0, r0_1, r0_10, r0_11, g⟩
  have G2 := Lib.hid g; have SZ2 := Lib.hid g.size; clear g
  have S0_0_2 : Hid (RiT w2.heap.size w2 (.slice SA0_0 xs0_0.length xs0_0.length) xs0_0) := Lib.hid r0_0; clear r0_0
  have S0_1_2 : Hid (RiU w2.heap.size w2 (.slice SA0_1 xs0_1.length xs0_1.length) xs0_1) := Lib.hid r0_1; clear r0_1
  have S0_10_2 : Hid (RiU w2.heap.size w2 (.slice SA0_10 xs0_10.length xs0_10.length) xs0_10) := Lib.hid r0_10; clear r0_10
  have S0_11_2 : Hid (RiU w2.heap.size w2 (.slice SA0_11 xs0_11.length xs0_11.length) xs0_11) := Lib.hid r0_11; clear r0_11
  have HB2 : Hid (Below w.heap.size w w2) := Lib.hid (HB1.out.trans (G2.out.mono HB1.out.size))
  have Cc0_0_2 : Hid (w2.cell? ⟨w.heap.size, 0, none⟩ = some (.slice A0_0 xs0_0.length c0_0)) := Lib.hid ((G2.out.cell (p := ⟨w.heap.size, 0, none⟩) (show w.heap.size < _ from by have := LT1.out; omega)).trans Cc0_0_1.out)
  have Cc0_1_2 : Hid (w2.cell? ⟨w.heap.size, 1, none⟩ = some (.slice A0_1 xs0_1.length c0_1)) := Lib.hid ((G2.out.cell (p := ⟨w.heap.size, 1, none⟩) (show w.heap.size < _ from by have := LT1.out; omega)).trans Cc0_1_1.out)
  have Cc0_2_2 : Hid (w2.cell? ⟨w.heap.size, 2, none⟩ = some (.int .i64 n0_2)) := Lib.hid ((G2.out.cell (p := ⟨w.heap.size, 2, none⟩) (show w.heap.size < _ from by have := LT1.out; omega)).trans Cc0_2_1.out)
  have Cc0_3_2 : Hid (w2.cell? ⟨w.heap.size, 3, none⟩ = some (.bool n0_3)) := Lib.hid ((G2.out.cell (p := ⟨w.heap.size, 3, none⟩) (show w.heap.size < _ from by have := LT1.out; omega)).trans Cc0_3_1.out)
  have Cc0_4_2 : Hid (w2.cell? ⟨w.heap.size, 4, none⟩ = some (.int .i64 n0_4)) := Lib.hid ((G2.out.cell (p := ⟨w.heap.size, 4, none⟩) (show w.heap.size < _ from by have := LT1.out; omega)).trans Cc0_4_1.out)
  have Cc0_5_2 : Hid (w2.cell? ⟨w.heap.size, 5, none⟩ = some (.int .i64 n0_5)) := Lib.hid ((G2.out.cell (p := ⟨w.heap.size, 5, none⟩) (show w.heap.size < _ from by have := LT1.out; omega)).trans Cc0_5_1.out)
  have Cc0_6_2 : Hid (w2.cell? ⟨w.heap.size, 6, none⟩ = some (.int .i64 n0_6)) := Lib.hid ((G2.out.cell (p := ⟨w.heap.size, 6, none⟩) (show w.heap.size < _ from by have := LT1.out; omega)).trans Cc0_6_1.out)
  have Cc0_7_2 : Hid (w2.cell? ⟨w.heap.size, 7, none⟩ = some (.int .i64 n0_7)) := Lib.hid ((G2.out.cell (p := ⟨w.heap.size, 7, none⟩) (show w.heap.size < _ from by have := LT1.out; omega)).trans Cc0_7_1.out)
  have Cc0_8_2 : Hid (w2.cell? ⟨w.heap.size, 8, none⟩ = some (.int .i64 n0_8)) := Lib.hid ((G2.out.cell (p := ⟨w.heap.size, 8, none⟩) (show w.heap.size < _ from by have := LT1.out; omega)).trans Cc0_8_1.out)
  have Cc0_9_2 : Hid (w2.cell? ⟨w.heap.size, 9, none⟩ = some (.int .i64 n0_9)) := Lib.hid ((G2.out.cell (p := ⟨w.heap.size, 9, none⟩) (show w.heap.size < _ from by have := LT1.out; omega)).trans Cc0_9_1.out)
  have Cc0_10_2 : Hid (w2.cell? ⟨w.heap.size, 10, none⟩ = some (.slice A0_10 xs0_10.length c0_10)) := Lib.hid ((G2.out.cell (p := ⟨w.heap.size, 10, none⟩) (show w.heap.size < _ from by have := LT1.out; omega)).trans Cc0_10_1.out)
  have Cc0_11_2 : Hid (w2.cell? ⟨w.heap.size, 11, none⟩ = some (.slice A0_11 xs0_11.length c0_11)) := Lib.hid ((G2.out.cell (p := ⟨w.heap.size, 11, none⟩) (show w.heap.size < _ from by have := LT1.out; omega)).trans Cc0_11_1.out)
  have LT2 : Hid (w.heap.size + 1 ≤ w2.heap.size) := Lib.hid (by have := LT1.out; have := SZ2.out; omega)
  have qCc0_0_ := Cc0_0_2.out
  have qCc0_1_ := Cc0_1_2.out
  have qCc0_2_ := Cc0_2_2.out
  have qCc0_3_ := Cc0_3_2.out
  have qCc0_4_ := Cc0_4_2.out
  have qCc0_5_ := Cc0_5_2.out
  have qCc0_6_ := Cc0_6_2.out
  have qCc0_7_ := Cc0_7_2.out
  have qCc0_8_ := Cc0_8_2.out
  have qCc0_9_ := Cc0_9_2.out
  have qCc0_10_ := Cc0_10_2.out
  have qCc0_11_ := Cc0_11_2.out
  go_wp2_with fail
  clear qCc0_0_ qCc0_1_ qCc0_2_ qCc0_3_ qCc0_4_ qCc0_5_ qCc0_6_ qCc0_7_ qCc0_8_ qCc0_9_ qCc0_10_ qCc0_11_
  refine (specFreeCount_any S0_0_2.out S0_1_2.out S0_10_2.out S0_11_2.out (Nat.le_refl _) N0_4.out N0_5.out).mono ?_
  rintro e w3 ⟨rfl, g⟩
  have G3 := Lib.hid g; have SZ3 := Lib.hid g.size; clear g
  have HB3 : Hid (Below w.heap.size w w3) := Lib.hid (HB2.out.trans (G3.out.mono HB2.out.size))
  have Cc0_0_3 : Hid (w3.cell? ⟨w.heap.size, 0, none⟩ = some (.slice A0_0 xs0_0.length c0_0)) := Lib.hid ((G3.out.cell (p := ⟨w.heap.size, 0, none⟩) (show w.heap.size < _ from by have := LT2.out; omega)).trans Cc0_0_2.out)
  have Cc0_1_3 : Hid (w3.cell? ⟨w.heap.size, 1, none⟩ = some (.slice A0_1 xs0_1.length c0_1)) := Lib.hid ((G3.out.cell (p := ⟨w.heap.size, 1, none⟩) (show w.heap.size < _ from by have := LT2.out; omega)).trans Cc0_1_2.out)
  have Cc0_2_3 : Hid (w3.cell? ⟨w.heap.size, 2, none⟩ = some (.int .i64 n0_2)) := Lib.hid ((G3.out.cell (p := ⟨w.heap.size, 2, none⟩) (show w.heap.size < _ from by have := LT2.out; omega)).trans Cc0_2_2.out)
  have Cc0_3_3 : Hid (w3.cell? ⟨w.heap.size, 3, none⟩ = some (.bool n0_3)) := Lib.hid ((G3.out.cell (p := ⟨w.heap.size, 3, none⟩) (show w.heap.size < _ from by have := LT2.out; omega)).trans Cc0_3_2.out)
  have Cc0_4_3 : Hid (w3.cell? ⟨w.heap.size, 4, none⟩ = some (.int .i64 n0_4)) := Lib.hid ((G3.out.cell (p := ⟨w.heap.size, 4, none⟩) (show w.heap.size < _ from by have := LT2.out; omega)).trans Cc0_4_2.out)
  have Cc0_5_3 : Hid (w3.cell? ⟨w.heap.size, 5, none⟩ = some (.int .i64 n0_5)) := Lib.hid ((G3.out.cell (p := ⟨w.heap.size, 5, none⟩) (show w.heap.size < _ from by have := LT2.out; omega)).trans Cc0_5_2.out)
  have Cc0_6_3 : Hid (w3.cell? ⟨w.heap.size, 6, none⟩ = some (.int .i64 n0_6)) := Lib.hid ((G3.out.cell (p := ⟨w.heap.size, 6, none⟩) (show w.heap.size < _ from by have := LT2.out; omega)).trans Cc0_6_2.out)
  have Cc0_7_3 : Hid (w3.cell? ⟨w.heap.size, 7, none⟩ = some (.int .i64 n0_7)) := Lib.hid ((G3.out.cell (p := ⟨w.heap.size, 7, none⟩) (show w.heap.size < _ from by have := LT2.out; omega)).trans Cc0_7_2.out)
  have Cc0_8_3 : Hid (w3.cell? ⟨w.heap.size, 8, none⟩ = some (.int .i64 n0_8)) := Lib.hid ((G3.out.cell (p := ⟨w.heap.size, 8, none⟩) (show w.heap.size < _ from by have := LT2.out; omega)).trans Cc0_8_2.out)
  have Cc0_9_3 : Hid (w3.cell? ⟨w.heap.size, 9, none⟩ = some (.int .i64 n0_9)) := Lib.hid ((G3.out.cell (p := ⟨w.heap.size, 9, none⟩) (show w.heap.size < _ from by have := LT2.out; omega)).trans Cc0_9_2.out)
  have Cc0_10_3 : Hid (w3.cell? ⟨w.heap.size, 10, none⟩ = some (.slice A0_10 xs0_10.length c0_10)) := Lib.hid ((G3.out.cell (p := ⟨w.heap.size, 10, none⟩) (show w.heap.size < _ from by have := LT2.out; omega)).trans Cc0_10_2.out)
  have Cc0_11_3 : Hid (w3.cell? ⟨w.heap.size, 11, none⟩ = some (.slice A0_11 xs0_11.length c0_11)) := Lib.hid ((G3.out.cell (p := ⟨w.heap.size, 11, none⟩) (show w.heap.size < _ from by have := LT2.out; omega)).trans Cc0_11_2.out)
  have S0_0_3 : Hid (RiT w3.heap.size w3 (.slice SA0_0 xs0_0.length xs0_0.length) xs0_0) := Lib.hid (S0_0_2.out.at (Nat.le_refl _) G3.out)
  have S0_1_3 : Hid (RiU w3.heap.size w3 (.slice SA0_1 xs0_1.length xs0_1.length) xs0_1) := Lib.hid (S0_1_2.out.at (Nat.le_refl _) G3.out)
  have S0_10_3 : Hid (RiU w3.heap.size w3 (.slice SA0_10 xs0_10.length xs0_10.length) xs0_10) := Lib.hid (S0_10_2.out.at (Nat.le_refl _) G3.out)
  have S0_11_3 : Hid (RiU w3.heap.size w3 (.slice SA0_11 xs0_11.length xs0_11.length) xs0_11) := Lib.hid (S0_11_2.out.at (Nat.le_refl _) G3.out)
  have LT3 : Hid (w.heap.size + 1 ≤ w3.heap.size) := Lib.hid (by have := LT2.out; have := SZ3.out; omega)
  have qCc0_0_ := Cc0_0_3.out
  have qCc0_1_ := Cc0_1_3.out
  have qCc0_2_ := Cc0_2_3.out
  have qCc0_3_ := Cc0_3_3.out
  have qCc0_4_ := Cc0_4_3.out
  have qCc0_5_ := Cc0_5_3.out
  have qCc0_6_ := Cc0_6_3.out
  have qCc0_7_ := Cc0_7_3.out
  have qCc0_8_ := Cc0_8_3.out
  have qCc0_9_ := Cc0_9_3.out
  have qCc0_10_ := Cc0_10_3.out
  have qCc0_11_ := Cc0_11_3.out
  go_wp2_with fail
  clear qCc0_0_ qCc0_1_ qCc0_2_ qCc0_3_ qCc0_4_ qCc0_5_ qCc0_6_ qCc0_7_ qCc0_8_ qCc0_9_ qCc0_10_ qCc0_11_
  refine (toPager_rd (H0_0.out.at (Nat.le_refl _) HB3.out) (H0_1.out.at (Nat.le_refl _) HB3.out) (H0_10.out.at (Nat.le_refl _) HB3.out) (H0_11.out.at (Nat.le_refl _) HB3.out) (Nat.le_refl _) SM0.out).mono ?_
  rintro e w4 ⟨XA0_0, XA0_1, XA0_10, XA0_11, rfl, r0_0, r0_1, r0_10, r0_11, g⟩
  have G4 := Lib.hid g; have SZ4 := Lib.hid g.size; clear g
  have X0_0_4 : Hid (RiT w4.heap.size w4 (.slice XA0_0 xs0_0.length xs0_0.length) xs0_0) := Lib.hid r0_0; clear r0_0
  have X0_1_4 : Hid (RiU w4.heap.size w4 (.slice XA0_1 xs0_1.length xs0_1.length) xs0_1) := Lib.hid r0_1; clear r0_1
  have X0_10_4 : Hid (RiU w4.heap.size w4 (.slice XA0_10 xs0_10.length xs0_10.length) xs0_10) := Lib.hid r0_10; clear r0_10
  have X0_11_4 : Hid (RiU w4.heap.size w4 (.slice XA0_11 xs0_11.length xs0_11.length) xs0_11) := Lib.hid r0_11; clear r0_11
  have HB4 : Hid (Below w.heap.size w w4) := Lib.hid (HB3.out.trans (G4.out.mono HB3.out.size))
  have Cc0_0_4 : Hid (w4.cell? ⟨w.heap.size, 0, none⟩ = some (.slice A0_0 xs0_0.length c0_0)) := Lib.hid ((G4.out.cell (p := ⟨w.heap.size, 0, none⟩) (show w.heap.size < _ from by have := LT3.out; omega)).trans Cc0_0_3.out)
  have Cc0_1_4 : Hid (w4.cell? ⟨w.heap.size, 1, none⟩ = some (.slice A0_1 xs0_1.length c0_1)) := Lib.hid ((G4.out.cell (p := ⟨w.heap.size, 1, none⟩) (show w.heap.size < _ from by have := LT3.out; omega)).trans Cc0_1_3.out)
  have Cc0_2_4 : Hid (w4.cell? ⟨w.heap.size, 2, none⟩ = some (.int .i64 n0_2)) := Lib.hid ((G4.out.cell (p := ⟨w.heap.size, 2, none⟩) (show w.heap.size < _ from by have := LT3.out; omega)).trans Cc0_2_3.out)
  have Cc0_3_4 : Hid (w4.cell? ⟨w.heap.size, 3, none⟩ = some (.bool n0_3)) := Lib.hid ((G4.out.cell (p := ⟨w.heap.size, 3, none⟩) (show w.heap.size < _ from by have := LT3.out; omega)).trans Cc0_3_3.out)
  have Cc0_4_4 : Hid (w4.cell? ⟨w.heap.size, 4, none⟩ = some (.int .i64 n0_4)) := Lib.hid ((G4.out.cell (p := ⟨w.heap.size, 4, none⟩) (show w.heap.size < _ from by have := LT3.out; omega)).trans Cc0_4_3.out)
  have Cc0_5_4 : Hid (w4.cell? ⟨w.heap.size, 5, none⟩ = some (.int .i64 n0_5)) := Lib.hid ((G4.out.cell (p := ⟨w.heap.size, 5, none⟩) (show w.heap.size < _ from by have := LT3.out; omega)).trans Cc0_5_3.out)
  have Cc0_6_4 : Hid (w4.cell? ⟨w.heap.size, 6, none⟩ = some (.int .i64 n0_6)) := Lib.hid ((G4.out.cell (p := ⟨w.heap.size, 6, none⟩) (show w.heap.size < _ from by have := LT3.out; omega)).trans Cc0_6_3.out)
  have Cc0_7_4 : Hid (w4.cell? ⟨w.heap.size, 7, none⟩ = some (.int .i64 n0_7)) := Lib.hid ((G4.out.cell (p := ⟨w.heap.size, 7, none⟩) (show w.heap.size < _ from by have := LT3.out; omega)).trans Cc0_7_3.out)
  have Cc0_8_4 : Hid (w4.cell? ⟨w.heap.size, 8, none⟩ = some (.int .i64 n0_8)) := Lib.hid ((G4.out.cell (p := ⟨w.heap.size, 8, none⟩) (show w.heap.size < _ from by have := LT3.out; omega)).trans Cc0_8_3.out)
  have Cc0_9_4 : Hid (w4.cell? ⟨w.heap.size, 9, none⟩ = some (.int .i64 n0_9)) := Lib.hid ((G4.out.cell (p := ⟨w.heap.size, 9, none⟩) (show w.heap.size < _ from by have := LT3.out; omega)).trans Cc0_9_3.out)
  have Cc0_10_4 : Hid (w4.cell? ⟨w.heap.size, 10, none⟩ = some (.slice A0_10 xs0_10.length c0_10)) := Lib.hid ((G4.out.cell (p := ⟨w.heap.size, 10, none⟩) (show w.heap.size < _ from by have := LT3.out; omega)).trans Cc0_10_3.out)
  have Cc0_11_4 : Hid (w4.cell? ⟨w.heap.size, 11, none⟩ = some (.slice A0_11 xs0_11.length c0_11)) := Lib.hid ((G4.out.cell (p := ⟨w.heap.size, 11, none⟩) (show w.heap.size < _ from by have := LT3.out; omega)).trans Cc0_11_3.out)
  have LT4 : Hid (w.heap.size + 1 ≤ w4.heap.size) := Lib.hid (by have := LT3.out; have := SZ4.out; omega)
  have Hi0 : Hid ((Try.prog.info? 42).map (·.size) = some (#[.slice XA0_0 xs0_0.length xs0_0.length, .slice XA0_1 xs0_1.length xs0_1.length, .int .i64 n0_2, .bool n0_3, .int .i64 n0_4, .int .i64 n0_5, .int .i64 n0_6, .int .i64 n0_7, .int .i64 n0_8, .int .i64 n0_9, .slice XA0_10 xs0_10.length xs0_10.length, .slice XA0_11 xs0_11.length xs0_11.length] : Array Value).size) := Lib.hid (by kernel_rfl)
  have H10 : Hid ((#[.slice XA0_0 xs0_0.length xs0_0.length, .slice XA0_1 xs0_1.length xs0_1.length, .int .i64 n0_2, .bool n0_3, .int .i64 n0_4, .int .i64 n0_5, .int .i64 n0_6, .int .i64 n0_7, .int .i64 n0_8, .int .i64 n0_9, .slice XA0_10 xs0_10.length xs0_10.length, .slice XA0_11 xs0_11.length xs0_11.length] : Array Value).all (·.oneCell') = true) := Lib.hid (by simp [Value.oneCell'])
  have Gx0 : Hid (Below w4.heap.size w4 (w4.alloc (.cells #[.slice XA0_0 xs0_0.length xs0_0.length, .slice XA0_1 xs0_1.length xs0_1.length, .int .i64 n0_2, .bool n0_3, .int .i64 n0_4, .int .i64 n0_5, .int .i64 n0_6, .int .i64 n0_7, .int .i64 n0_8, .int .i64 n0_9, .slice XA0_10 xs0_10.length xs0_10.length, .slice XA0_11 xs0_11.length xs0_11.length] 42))) := Lib.hid ((Below.refl _ _).alloc (Nat.le_refl _) _)
  have SZ5 : Hid (w4.heap.size + 1 ≤ (w4.alloc (.cells #[.slice XA0_0 xs0_0.length xs0_0.length, .slice XA0_1 xs0_1.length xs0_1.length, .int .i64 n0_2, .bool n0_3, .int .i64 n0_4, .int .i64 n0_5, .int .i64 n0_6, .int .i64 n0_7, .int .i64 n0_8, .int .i64 n0_9, .slice XA0_10 xs0_10.length xs0_10.length, .slice XA0_11 xs0_11.length xs0_11.length] 42)).heap.size) := Lib.hid (by simp)
  have HB5 : Hid (Below w.heap.size w (w4.alloc (.cells #[.slice XA0_0 xs0_0.length xs0_0.length, .slice XA0_1 xs0_1.length xs0_1.length, .int .i64 n0_2, .bool n0_3, .int .i64 n0_4, .int .i64 n0_5, .int .i64 n0_6, .int .i64 n0_7, .int .i64 n0_8, .int .i64 n0_9, .slice XA0_10 xs0_10.length xs0_10.length, .slice XA0_11 xs0_11.length xs0_11.length] 42))) := Lib.hid (HB4.out.trans (Gx0.out.mono HB4.out.size))
  have Cc0_0_5 : Hid ((w4.alloc (.cells #[.slice XA0_0 xs0_0.length xs0_0.length, .slice XA0_1 xs0_1.length xs0_1.length, .int .i64 n0_2, .bool n0_3, .int .i64 n0_4, .int .i64 n0_5, .int .i64 n0_6, .int .i64 n0_7, .int .i64 n0_8, .int .i64 n0_9, .slice XA0_10 xs0_10.length xs0_10.length, .slice XA0_11 xs0_11.length xs0_11.length] 42)).cell? ⟨w.heap.size, 0, none⟩ = some (.slice A0_0 xs0_0.length c0_0)) := Lib.hid ((Gx0.out.cell (p := ⟨w.heap.size, 0, none⟩) (show w.heap.size < _ from by have := LT4.out; omega)).trans Cc0_0_4.out)
  have Cc0_1_5 : Hid ((w4.alloc (.cells #[.slice XA0_0 xs0_0.length xs0_0.length, .slice XA0_1 xs0_1.length xs0_1.length, .int .i64 n0_2, .bool n0_3, .int .i64 n0_4, .int .i64 n0_5, .int .i64 n0_6, .int .i64 n0_7, .int .i64 n0_8, .int .i64 n0_9, .slice XA0_10 xs0_10.length xs0_10.length, .slice XA0_11 xs0_11.length xs0_11.length] 42)).cell? ⟨w.heap.size, 1, none⟩ = some (.slice A0_1 xs0_1.length c0_1)) := Lib.hid ((Gx0.out.cell (p := ⟨w.heap.size, 1, none⟩) (show w.heap.size < _ from by have := LT4.out; omega)).trans Cc0_1_4.out)
  have Cc0_2_5 : Hid ((w4.alloc (.cells #[.slice XA0_0 xs0_0.length xs0_0.length, .slice XA0_1 xs0_1.length xs0_1.length, .int .i64 n0_2, .bool n0_3, .int .i64 n0_4, .int .i64 n0_5, .int .i64 n0_6, .int .i64 n0_7, .int .i64 n0_8, .int .i64 n0_9, .slice XA0_10 xs0_10.length xs0_10.length, .slice XA0_11 xs0_11.length xs0_11.length] 42)).cell? ⟨w.heap.size, 2, none⟩ = some (.int .i64 n0_2)) := Lib.hid ((Gx0.out.cell (p := ⟨w.heap.size, 2, none⟩) (show w.heap.size < _ from by have := LT4.out; omega)).trans Cc0_2_4.out)
  have Cc0_3_5 : Hid ((w4.alloc (.cells #[.slice XA0_0 xs0_0.length xs0_0.length, .slice XA0_1 xs0_1.length xs0_1.length, .int .i64 n0_2, .bool n0_3, .int .i64 n0_4, .int .i64 n0_5, .int .i64 n0_6, .int .i64 n0_7, .int .i64 n0_8, .int .i64 n0_9, .slice XA0_10 xs0_10.length xs0_10.length, .slice XA0_11 xs0_11.length xs0_11.length] 42)).cell? ⟨w.heap.size, 3, none⟩ = some (.bool n0_3)) := Lib.hid ((Gx0.out.cell (p := ⟨w.heap.size, 3, none⟩) (show w.heap.size < _ from by have := LT4.out; omega)).trans Cc0_3_4.out)
  have Cc0_4_5 : Hid ((w4.alloc (.cells #[.slice XA0_0 xs0_0.length xs0_0.length, .slice XA0_1 xs0_1.length xs0_1.length, .int .i64 n0_2, .bool n0_3, .int .i64 n0_4, .int .i64 n0_5, .int .i64 n0_6, .int .i64 n0_7, .int .i64 n0_8, .int .i64 n0_9, .slice XA0_10 xs0_10.length xs0_10.length, .slice XA0_11 xs0_11.length xs0_11.length] 42)).cell? ⟨w.heap.size, 4, none⟩ = some (.int .i64 n0_4)) := Lib.hid ((Gx0.out.cell (p := ⟨w.heap.size, 4, none⟩) (show w.heap.size < _ from by have := LT4.out; omega)).trans Cc0_4_4.out)
  have Cc0_5_5 : Hid ((w4.alloc (.cells #[.slice XA0_0 xs0_0.length xs0_0.length, .slice XA0_1 xs0_1.length xs0_1.length, .int .i64 n0_2, .bool n0_3, .int .i64 n0_4, .int .i64 n0_5, .int .i64 n0_6, .int .i64 n0_7, .int .i64 n0_8, .int .i64 n0_9, .slice XA0_10 xs0_10.length xs0_10.length, .slice XA0_11 xs0_11.length xs0_11.length] 42)).cell? ⟨w.heap.size, 5, none⟩ = some (.int .i64 n0_5)) := Lib.hid ((Gx0.out.cell (p := ⟨w.heap.size, 5, none⟩) (show w.heap.size < _ from by have := LT4.out; omega)).trans Cc0_5_4.out)
  have Cc0_6_5 : Hid ((w4.alloc (.cells #[.slice XA0_0 xs0_0.length xs0_0.length, .slice XA0_1 xs0_1.length xs0_1.length, .int .i64 n0_2, .bool n0_3, .int .i64 n0_4, .int .i64 n0_5, .int .i64 n0_6, .int .i64 n0_7, .int .i64 n0_8, .int .i64 n0_9, .slice XA0_10 xs0_10.length xs0_10.length, .slice XA0_11 xs0_11.length xs0_11.length] 42)).cell? ⟨w.heap.size, 6, none⟩ = some (.int .i64 n0_6)) := Lib.hid ((Gx0.out.cell (p := ⟨w.heap.size, 6, none⟩) (show w.heap.size < _ from by have := LT4.out; omega)).trans Cc0_6_4.out)
  have Cc0_7_5 : Hid ((w4.alloc (.cells #[.slice XA0_0 xs0_0.length xs0_0.length, .slice XA0_1 xs0_1.length xs0_1.length, .int .i64 n0_2, .bool n0_3, .int .i64 n0_4, .int .i64 n0_5, .int .i64 n0_6, .int .i64 n0_7, .int .i64 n0_8, .int .i64 n0_9, .slice XA0_10 xs0_10.length xs0_10.length, .slice XA0_11 xs0_11.length xs0_11.length] 42)).cell? ⟨w.heap.size, 7, none⟩ = some (.int .i64 n0_7)) := Lib.hid ((Gx0.out.cell (p := ⟨w.heap.size, 7, none⟩) (show w.heap.size < _ from by have := LT4.out; omega)).trans Cc0_7_4.out)
  have Cc0_8_5 : Hid ((w4.alloc (.cells #[.slice XA0_0 xs0_0.length xs0_0.length, .slice XA0_1 xs0_1.length xs0_1.length, .int .i64 n0_2, .bool n0_3, .int .i64 n0_4, .int .i64 n0_5, .int .i64 n0_6, .int .i64 n0_7, .int .i64 n0_8, .int .i64 n0_9, .slice XA0_10 xs0_10.length xs0_10.length, .slice XA0_11 xs0_11.length xs0_11.length] 42)).cell? ⟨w.heap.size, 8, none⟩ = some (.int .i64 n0_8)) := Lib.hid ((Gx0.out.cell (p := ⟨w.heap.size, 8, none⟩) (show w.heap.size < _ from by have := LT4.out; omega)).trans Cc0_8_4.out)
  have Cc0_9_5 : Hid ((w4.alloc (.cells #[.slice XA0_0 xs0_0.length xs0_0.length, .slice XA0_1 xs0_1.length xs0_1.length, .int .i64 n0_2, .bool n0_3, .int .i64 n0_4, .int .i64 n0_5, .int .i64 n0_6, .int .i64 n0_7, .int .i64 n0_8, .int .i64 n0_9, .slice XA0_10 xs0_10.length xs0_10.length, .slice XA0_11 xs0_11.length xs0_11.length] 42)).cell? ⟨w.heap.size, 9, none⟩ = some (.int .i64 n0_9)) := Lib.hid ((Gx0.out.cell (p := ⟨w.heap.size, 9, none⟩) (show w.heap.size < _ from by have := LT4.out; omega)).trans Cc0_9_4.out)
  have Cc0_10_5 : Hid ((w4.alloc (.cells #[.slice XA0_0 xs0_0.length xs0_0.length, .slice XA0_1 xs0_1.length xs0_1.length, .int .i64 n0_2, .bool n0_3, .int .i64 n0_4, .int .i64 n0_5, .int .i64 n0_6, .int .i64 n0_7, .int .i64 n0_8, .int .i64 n0_9, .slice XA0_10 xs0_10.length xs0_10.length, .slice XA0_11 xs0_11.length xs0_11.length] 42)).cell? ⟨w.heap.size, 10, none⟩ = some (.slice A0_10 xs0_10.length c0_10)) := Lib.hid ((Gx0.out.cell (p := ⟨w.heap.size, 10, none⟩) (show w.heap.size < _ from by have := LT4.out; omega)).trans Cc0_10_4.out)
  have Cc0_11_5 : Hid ((w4.alloc (.cells #[.slice XA0_0 xs0_0.length xs0_0.length, .slice XA0_1 xs0_1.length xs0_1.length, .int .i64 n0_2, .bool n0_3, .int .i64 n0_4, .int .i64 n0_5, .int .i64 n0_6, .int .i64 n0_7, .int .i64 n0_8, .int .i64 n0_9, .slice XA0_10 xs0_10.length xs0_10.length, .slice XA0_11 xs0_11.length xs0_11.length] 42)).cell? ⟨w.heap.size, 11, none⟩ = some (.slice A0_11 xs0_11.length c0_11)) := Lib.hid ((Gx0.out.cell (p := ⟨w.heap.size, 11, none⟩) (show w.heap.size < _ from by have := LT4.out; omega)).trans Cc0_11_4.out)
  have X0_0_5 : Hid (RiT (w4.alloc (.cells #[.slice XA0_0 xs0_0.length xs0_0.length, .slice XA0_1 xs0_1.length xs0_1.length, .int .i64 n0_2, .bool n0_3, .int .i64 n0_4, .int .i64 n0_5, .int .i64 n0_6, .int .i64 n0_7, .int .i64 n0_8, .int .i64 n0_9, .slice XA0_10 xs0_10.length xs0_10.length, .slice XA0_11 xs0_11.length xs0_11.length] 42)).heap.size (w4.alloc (.cells #[.slice XA0_0 xs0_0.length xs0_0.length, .slice XA0_1 xs0_1.length xs0_1.length, .int .i64 n0_2, .bool n0_3, .int .i64 n0_4, .int .i64 n0_5, .int .i64 n0_6, .int .i64 n0_7, .int .i64 n0_8, .int .i64 n0_9, .slice XA0_10 xs0_10.length xs0_10.length, .slice XA0_11 xs0_11.length xs0_11.length] 42)) (.slice XA0_0 xs0_0.length xs0_0.length) xs0_0) := Lib.hid (X0_0_4.out.at (Nat.le_refl _) Gx0.out)
  have X0_1_5 : Hid (RiU (w4.alloc (.cells #[.slice XA0_0 xs0_0.length xs0_0.length, .slice XA0_1 xs0_1.length xs0_1.length, .int .i64 n0_2, .bool n0_3, .int .i64 n0_4, .int .i64 n0_5, .int .i64 n0_6, .int .i64 n0_7, .int .i64 n0_8, .int .i64 n0_9, .slice XA0_10 xs0_10.length xs0_10.length, .slice XA0_11 xs0_11.length xs0_11.length] 42)).heap.size (w4.alloc (.cells #[.slice XA0_0 xs0_0.length xs0_0.length, .slice XA0_1 xs0_1.length xs0_1.length, .int .i64 n0_2, .bool n0_3, .int .i64 n0_4, .int .i64 n0_5, .int .i64 n0_6, .int .i64 n0_7, .int .i64 n0_8, .int .i64 n0_9, .slice XA0_10 xs0_10.length xs0_10.length, .slice XA0_11 xs0_11.length xs0_11.length] 42)) (.slice XA0_1 xs0_1.length xs0_1.length) xs0_1) := Lib.hid (X0_1_4.out.at (Nat.le_refl _) Gx0.out)
  have X0_10_5 : Hid (RiU (w4.alloc (.cells #[.slice XA0_0 xs0_0.length xs0_0.length, .slice XA0_1 xs0_1.length xs0_1.length, .int .i64 n0_2, .bool n0_3, .int .i64 n0_4, .int .i64 n0_5, .int .i64 n0_6, .int .i64 n0_7, .int .i64 n0_8, .int .i64 n0_9, .slice XA0_10 xs0_10.length xs0_10.length, .slice XA0_11 xs0_11.length xs0_11.length] 42)).heap.size (w4.alloc (.cells #[.slice XA0_0 xs0_0.length xs0_0.length, .slice XA0_1 xs0_1.length xs0_1.length, .int .i64 n0_2, .bool n0_3, .int .i64 n0_4, .int .i64 n0_5, .int .i64 n0_6, .int .i64 n0_7, .int .i64 n0_8, .int .i64 n0_9, .slice XA0_10 xs0_10.length xs0_10.length, .slice XA0_11 xs0_11.length xs0_11.length] 42)) (.slice XA0_10 xs0_10.length xs0_10.length) xs0_10) := Lib.hid (X0_10_4.out.at (Nat.le_refl _) Gx0.out)
  have X0_11_5 : Hid (RiU (w4.alloc (.cells #[.slice XA0_0 xs0_0.length xs0_0.length, .slice XA0_1 xs0_1.length xs0_1.length, .int .i64 n0_2, .bool n0_3, .int .i64 n0_4, .int .i64 n0_5, .int .i64 n0_6, .int .i64 n0_7, .int .i64 n0_8, .int .i64 n0_9, .slice XA0_10 xs0_10.length xs0_10.length, .slice XA0_11 xs0_11.length xs0_11.length] 42)).heap.size (w4.alloc (.cells #[.slice XA0_0 xs0_0.length xs0_0.length, .slice XA0_1 xs0_1.length xs0_1.length, .int .i64 n0_2, .bool n0_3, .int .i64 n0_4, .int .i64 n0_5, .int .i64 n0_6, .int .i64 n0_7, .int .i64 n0_8, .int .i64 n0_9, .slice XA0_10 xs0_10.length xs0_10.length, .slice XA0_11 xs0_11.length xs0_11.length] 42)) (.slice XA0_11 xs0_11.length xs0_11.length) xs0_11) := Lib.hid (X0_11_4.out.at (Nat.le_refl _) Gx0.out)
  have LT5 : Hid (w.heap.size + 1 ≤ (w4.alloc (.cells #[.slice XA0_0 xs0_0.length xs0_0.length, .slice XA0_1 xs0_1.length xs0_1.length, .int .i64 n0_2, .bool n0_3, .int .i64 n0_4, .int .i64 n0_5, .int .i64 n0_6, .int .i64 n0_7, .int .i64 n0_8, .int .i64 n0_9, .slice XA0_10 xs0_10.length xs0_10.length, .slice XA0_11 xs0_11.length xs0_11.length] 42)).heap.size ∧ w4.heap.size < (w4.alloc (.cells #[.slice XA0_0 xs0_0.length xs0_0.length, .slice XA0_1 xs0_1.length xs0_1.length, .int .i64 n0_2, .bool n0_3, .int .i64 n0_4, .int .i64 n0_5, .int .i64 n0_6, .int .i64 n0_7, .int .i64 n0_8, .int .i64 n0_9, .slice XA0_10 xs0_10.length xs0_10.length, .slice XA0_11 xs0_11.length xs0_11.length] 42)).heap.size) := Lib.hid (by have := LT4.out; have := SZ5.out; omega)
  have CX0_0_5 : Hid ((w4.alloc (.cells #[.slice XA0_0 xs0_0.length xs0_0.length, .slice XA0_1 xs0_1.length xs0_1.length, .int .i64 n0_2, .bool n0_3, .int .i64 n0_4, .int .i64 n0_5, .int .i64 n0_6, .int .i64 n0_7, .int .i64 n0_8, .int .i64 n0_9, .slice XA0_10 xs0_10.length xs0_10.length, .slice XA0_11 xs0_11.length xs0_11.length] 42)).cell? ⟨w4.heap.size, 0, none⟩ = some (.slice XA0_0 xs0_0.length xs0_0.length)) := Lib.hid (by rw [cell_of_row _ _ _ _ _ _ (heap_alloc_new w4 _)]; rfl)
  have CX0_1_5 : Hid ((w4.alloc (.cells #[.slice XA0_0 xs0_0.length xs0_0.length, .slice XA0_1 xs0_1.length xs0_1.length, .int .i64 n0_2, .bool n0_3, .int .i64 n0_4, .int .i64 n0_5, .int .i64 n0_6, .int .i64 n0_7, .int .i64 n0_8, .int .i64 n0_9, .slice XA0_10 xs0_10.length xs0_10.length, .slice XA0_11 xs0_11.length xs0_11.length] 42)).cell? ⟨w4.heap.size, 1, none⟩ = some (.slice XA0_1 xs0_1.length xs0_1.length)) := Lib.hid (by rw [cell_of_row _ _ _ _ _ _ (heap_alloc_new w4 _)]; rfl)
  have CX0_2_5 : Hid ((w4.alloc (.cells #[.slice XA0_0 xs0_0.length xs0_0.length, .slice XA0_1 xs0_1.length xs0_1.length, .int .i64 n0_2, .bool n0_3, .int .i64 n0_4, .int .i64 n0_5, .int .i64 n0_6, .int .i64 n0_7, .int .i64 n0_8, .int .i64 n0_9, .slice XA0_10 xs0_10.length xs0_10.length, .slice XA0_11 xs0_11.length xs0_11.length] 42)).cell? ⟨w4.heap.size, 2, none⟩ = some (.int .i64 n0_2)) := Lib.hid (by rw [cell_of_row _ _ _ _ _ _ (heap_alloc_new w4 _)]; rfl)
  have CX0_3_5 : Hid ((w4.alloc (.cells #[.slice XA0_0 xs0_0.length xs0_0.length, .slice XA0_1 xs0_1.length xs0_1.length, .int .i64 n0_2, .bool n0_3, .int .i64 n0_4, .int .i64 n0_5, .int .i64 n0_6, .int .i64 n0_7, .int .i64 n0_8, .int .i64 n0_9, .slice XA0_10 xs0_10.length xs0_10.length, .slice XA0_11 xs0_11.length xs0_11.length] 42)).cell? ⟨w4.heap.size, 3, none⟩ = some (.bool n0_3)) := Lib.hid (by rw [cell_of_row _ _ _ _ _ _ (heap_alloc_new w4 _)]; rfl)
  have CX0_4_5 : Hid ((w4.alloc (.cells #[.slice XA0_0 xs0_0.length xs0_0.length, .slice XA0_1 xs0_1.length xs0_1.length, .int .i64 n0_2, .bool n0_3, .int .i64 n0_4, .int .i64 n0_5, .int .i64 n0_6, .int .i64 n0_7, .int .i64 n0_8, .int .i64 n0_9, .slice XA0_10 xs0_10.length xs0_10.length, .slice XA0_11 xs0_11.length xs0_11.length] 42)).cell? ⟨w4.heap.size, 4, none⟩ = some (.int .i64 n0_4)) := Lib.hid (by rw [cell_of_row _ _ _ _ _ _ (heap_alloc_new w4 _)]; rfl)
  have CX0_5_5 : Hid ((w4.alloc (.cells #[.slice XA0_0 xs0_0.length xs0_0.length, .slice XA0_1 xs0_1.length xs0_1.length, .int .i64 n0_2, .bool n0_3, .int .i64 n0_4, .int .i64 n0_5, .int .i64 n0_6, .int .i64 n0_7, .int .i64 n0_8, .int .i64 n0_9, .slice XA0_10 xs0_10.length xs0_10.length, .slice XA0_11 xs0_11.length xs0_11.length] 42)).cell? ⟨w4.heap.size, 5, none⟩ = some (.int .i64 n0_5)) := Lib.hid (by rw [cell_of_row _ _ _ _ _ _ (heap_alloc_new w4 _)]; rfl)
  have CX0_6_5 : Hid ((w4.alloc (.cells #[.slice XA0_0 xs0_0.length xs0_0.length, .slice XA0_1 xs0_1.length xs0_1.length, .int .i64 n0_2, .bool n0_3, .int .i64 n0_4, .int .i64 n0_5, .int .i64 n0_6, .int .i64 n0_7, .int .i64 n0_8, .int .i64 n0_9, .slice XA0_10 xs0_10.length xs0_10.length, .slice XA0_11 xs0_11.length xs0_11.length] 42)).cell? ⟨w4.heap.size, 6, none⟩ = some (.int .i64 n0_6)) := Lib.hid (by rw [cell_of_row _ _ _ _ _ _ (heap_alloc_new w4 _)]; rfl)
  have CX0_7_5 : Hid ((w4.alloc (.cells #[.slice XA0_0 xs0_0.length xs0_0.length, .slice XA0_1 xs0_1.length xs0_1.length, .int .i64 n0_2, .bool n0_3, .int .i64 n0_4, .int .i64 n0_5, .int .i64 n0_6, .int .i64 n0_7, .int .i64 n0_8, .int .i64 n0_9, .slice XA0_10 xs0_10.length xs0_10.length, .slice XA0_11 xs0_11.length xs0_11.length] 42)).cell? ⟨w4.heap.size, 7, none⟩ = some (.int .i64 n0_7)) := Lib.hid (by rw [cell_of_row _ _ _ _ _ _ (heap_alloc_new w4 _)]; rfl)
  have CX0_8_5 : Hid ((w4.alloc (.cells #[.slice XA0_0 xs0_0.length xs0_0.length, .slice XA0_1 xs0_1.length xs0_1.length, .int .i64 n0_2, .bool n0_3, .int .i64 n0_4, .int .i64 n0_5, .int .i64 n0_6, .int .i64 n0_7, .int .i64 n0_8, .int .i64 n0_9, .slice XA0_10 xs0_10.length xs0_10.length, .slice XA0_11 xs0_11.length xs0_11.length] 42)).cell? ⟨w4.heap.size, 8, none⟩ = some (.int .i64 n0_8)) := Lib.hid (by rw [cell_of_row _ _ _ _ _ _ (heap_alloc_new w4 _)]; rfl)
  have CX0_9_5 : Hid ((w4.alloc (.cells #[.slice XA0_0 xs0_0.length xs0_0.length, .slice XA0_1 xs0_1.length xs0_1.length, .int .i64 n0_2, .bool n0_3, .int .i64 n0_4, .int .i64 n0_5, .int .i64 n0_6, .int .i64 n0_7, .int .i64 n0_8, .int .i64 n0_9, .slice XA0_10 xs0_10.length xs0_10.length, .slice XA0_11 xs0_11.length xs0_11.length] 42)).cell? ⟨w4.heap.size, 9, none⟩ = some (.int .i64 n0_9)) := Lib.hid (by rw [cell_of_row _ _ _ _ _ _ (heap_alloc_new w4 _)]; rfl)
  have CX0_10_5 : Hid ((w4.alloc (.cells #[.slice XA0_0 xs0_0.length xs0_0.length, .slice XA0_1 xs0_1.length xs0_1.length, .int .i64 n0_2, .bool n0_3, .int .i64 n0_4, .int .i64 n0_5, .int .i64 n0_6, .int .i64 n0_7, .int .i64 n0_8, .int .i64 n0_9, .slice XA0_10 xs0_10.length xs0_10.length, .slice XA0_11 xs0_11.length xs0_11.length] 42)).cell? ⟨w4.heap.size, 10, none⟩ = some (.slice XA0_10 xs0_10.length xs0_10.length)) := Lib.hid (by rw [cell_of_row _ _ _ _ _ _ (heap_alloc_new w4 _)]; rfl)
  have CX0_11_5 : Hid ((w4.alloc (.cells #[.slice XA0_0 xs0_0.length xs0_0.length, .slice XA0_1 xs0_1.length xs0_1.length, .int .i64 n0_2, .bool n0_3, .int .i64 n0_4, .int .i64 n0_5, .int .i64 n0_6, .int .i64 n0_7, .int .i64 n0_8, .int .i64 n0_9, .slice XA0_10 xs0_10.length xs0_10.length, .slice XA0_11 xs0_11.length xs0_11.length] 42)).cell? ⟨w4.heap.size, 11, none⟩ = some (.slice XA0_11 xs0_11.length xs0_11.length)) := Lib.hid (by rw [cell_of_row _ _ _ _ _ _ (heap_alloc_new w4 _)]; rfl)
  have qCc0_0_ := Cc0_0_5.out
  have qCc0_1_ := Cc0_1_5.out
  have qCc0_2_ := Cc0_2_5.out
  have qCc0_3_ := Cc0_3_5.out
  have qCc0_4_ := Cc0_4_5.out
  have qCc0_5_ := Cc0_5_5.out
  have qCc0_6_ := Cc0_6_5.out
  have qCc0_7_ := Cc0_7_5.out
  have qCc0_8_ := Cc0_8_5.out
  have qCc0_9_ := Cc0_9_5.out
  have qCc0_10_ := Cc0_10_5.out
  have qCc0_11_ := Cc0_11_5.out
  have qCX0_0_ := CX0_0_5.out
  have qCX0_1_ := CX0_1_5.out
  have qCX0_2_ := CX0_2_5.out
  have qCX0_3_ := CX0_3_5.out
  have qCX0_4_ := CX0_4_5.out
  have qCX0_5_ := CX0_5_5.out
  have qCX0_6_ := CX0_6_5.out
  have qCX0_7_ := CX0_7_5.out
  have qCX0_8_ := CX0_8_5.out
  have qCX0_9_ := CX0_9_5.out
  have qCX0_10_ := CX0_10_5.out
  have qCX0_11_ := CX0_11_5.out
  go_wp2_with (refine wpList_store_last rfl 42 (.tmp 5) (.tmp 16) rfl #[.slice XA0_0 xs0_0.length xs0_0.length, .slice XA0_1 xs0_1.length xs0_1.length, .int .i64 n0_2, .bool n0_3, .int .i64 n0_4, .int .i64 n0_5, .int .i64 n0_6, .int .i64 n0_7, .int .i64 n0_8, .int .i64 n0_9, .slice XA0_10 xs0_10.length xs0_10.length, .slice XA0_11 xs0_11.length xs0_11.length] _ 42 rfl rfl Hi0.out rfl H10.out ?_)
  clear qCc0_0_ qCc0_1_ qCc0_2_ qCc0_3_ qCc0_4_ qCc0_5_ qCc0_6_ qCc0_7_ qCc0_8_ qCc0_9_ qCc0_10_ qCc0_11_ qCX0_0_ qCX0_1_ qCX0_2_ qCX0_3_ qCX0_4_ qCX0_5_ qCX0_6_ qCX0_7_ qCX0_8_ qCX0_9_ qCX0_10_ qCX0_11_
  generalize (w4.alloc (.cells #[.slice XA0_0 xs0_0.length xs0_0.length, .slice XA0_1 xs0_1.length xs0_1.length, .int .i64 n0_2, .bool n0_3, .int .i64 n0_4, .int .i64 n0_5, .int .i64 n0_6, .int .i64 n0_7, .int .i64 n0_8, .int .i64 n0_9, .slice XA0_10 xs0_10.length xs0_10.length, .slice XA0_11 xs0_11.length xs0_11.length] 42)) = w5 at *
  refine (implFreeCount_any X0_0_5.out X0_1_5.out X0_10_5.out X0_11_5.out (Nat.le_refl _) N0_4.out N0_5.out).mono ?_
  rintro e w6 ⟨rfl, g⟩
  have G6 := Lib.hid g; have SZ6 := Lib.hid g.size; clear g
  have HB6 : Hid (Below w.heap.size w w6) := Lib.hid (HB5.out.trans (G6.out.mono HB5.out.size))
  have Cc0_0_6 : Hid (w6.cell? ⟨w.heap.size, 0, none⟩ = some (.slice A0_0 xs0_0.length c0_0)) := Lib.hid ((G6.out.cell (p := ⟨w.heap.size, 0, none⟩) (show w.heap.size < _ from by have := LT5.out; omega)).trans Cc0_0_5.out)
  have Cc0_1_6 : Hid (w6.cell? ⟨w.heap.size, 1, none⟩ = some (.slice A0_1 xs0_1.length c0_1)) := Lib.hid ((G6.out.cell (p := ⟨w.heap.size, 1, none⟩) (show w.heap.size < _ from by have := LT5.out; omega)).trans Cc0_1_5.out)
  have Cc0_2_6 : Hid (w6.cell? ⟨w.heap.size, 2, none⟩ = some (.int .i64 n0_2)) := Lib.hid ((G6.out.cell (p := ⟨w.heap.size, 2, none⟩) (show w.heap.size < _ from by have := LT5.out; omega)).trans Cc0_2_5.out)
  have Cc0_3_6 : Hid (w6.cell? ⟨w.heap.size, 3, none⟩ = some (.bool n0_3)) := Lib.hid ((G6.out.cell (p := ⟨w.heap.size, 3, none⟩) (show w.heap.size < _ from by have := LT5.out; omega)).trans Cc0_3_5.out)
  have Cc0_4_6 : Hid (w6.cell? ⟨w.heap.size, 4, none⟩ = some (.int .i64 n0_4)) := Lib.hid ((G6.out.cell (p := ⟨w.heap.size, 4, none⟩) (show w.heap.size < _ from by have := LT5.out; omega)).trans Cc0_4_5.out)
  have Cc0_5_6 : Hid (w6.cell? ⟨w.heap.size, 5, none⟩ = some (.int .i64 n0_5)) := Lib.hid ((G6.out.cell (p := ⟨w.heap.size, 5, none⟩) (show w.heap.size < _ from by have := LT5.out; omega)).trans Cc0_5_5.out)
  have Cc0_6_6 : Hid (w6.cell? ⟨w.heap.size, 6, none⟩ = some (.int .i64 n0_6)) := Lib.hid ((G6.out.cell (p := ⟨w.heap.size, 6, none⟩) (show w.heap.size < _ from by have := LT5.out; omega)).trans Cc0_6_5.out)
  have Cc0_7_6 : Hid (w6.cell? ⟨w.heap.size, 7, none⟩ = some (.int .i64 n0_7)) := Lib.hid ((G6.out.cell (p := ⟨w.heap.size, 7, none⟩) (show w.heap.size < _ from by have := LT5.out; omega)).trans Cc0_7_5.out)
  have Cc0_8_6 : Hid (w6.cell? ⟨w.heap.size, 8, none⟩ = some (.int .i64 n0_8)) := Lib.hid ((G6.out.cell (p := ⟨w.heap.size, 8, none⟩) (show w.heap.size < _ from by have := LT5.out; omega)).trans Cc0_8_5.out)
  have Cc0_9_6 : Hid (w6.cell? ⟨w.heap.size, 9, none⟩ = some (.int .i64 n0_9)) := Lib.hid ((G6.out.cell (p := ⟨w.heap.size, 9, none⟩) (show w.heap.size < _ from by have := LT5.out; omega)).trans Cc0_9_5.out)
  have Cc0_10_6 : Hid (w6.cell? ⟨w.heap.size, 10, none⟩ = some (.slice A0_10 xs0_10.length c0_10)) := Lib.hid ((G6.out.cell (p := ⟨w.heap.size, 10, none⟩) (show w.heap.size < _ from by have := LT5.out; omega)).trans Cc0_10_5.out)
  have Cc0_11_6 : Hid (w6.cell? ⟨w.heap.size, 11, none⟩ = some (.slice A0_11 xs0_11.length c0_11)) := Lib.hid ((G6.out.cell (p := ⟨w.heap.size, 11, none⟩) (show w.heap.size < _ from by have := LT5.out; omega)).trans Cc0_11_5.out)
  have CX0_0_6 : Hid (w6.cell? ⟨w4.heap.size, 0, none⟩ = some (.slice XA0_0 xs0_0.length xs0_0.length)) := Lib.hid ((G6.out.cell (p := ⟨w4.heap.size, 0, none⟩) (show w4.heap.size < _ from by have := LT5.out; omega)).trans CX0_0_5.out)
  have CX0_1_6 : Hid (w6.cell? ⟨w4.heap.size, 1, none⟩ = some (.slice XA0_1 xs0_1.length xs0_1.length)) := Lib.hid ((G6.out.cell (p := ⟨w4.heap.size, 1, none⟩) (show w4.heap.size < _ from by have := LT5.out; omega)).trans CX0_1_5.out)
  have CX0_2_6 : Hid (w6.cell? ⟨w4.heap.size, 2, none⟩ = some (.int .i64 n0_2)) := Lib.hid ((G6.out.cell (p := ⟨w4.heap.size, 2, none⟩) (show w4.heap.size < _ from by have := LT5.out; omega)).trans CX0_2_5.out)
  have CX0_3_6 : Hid (w6.cell? ⟨w4.heap.size, 3, none⟩ = some (.bool n0_3)) := Lib.hid ((G6.out.cell (p := ⟨w4.heap.size, 3, none⟩) (show w4.heap.size < _ from by have := LT5.out; omega)).trans CX0_3_5.out)
  have CX0_4_6 : Hid (w6.cell? ⟨w4.heap.size, 4, none⟩ = some (.int .i64 n0_4)) := Lib.hid ((G6.out.cell (p := ⟨w4.heap.size, 4, none⟩) (show w4.heap.size < _ from by have := LT5.out; omega)).trans CX0_4_5.out)
  have CX0_5_6 : Hid (w6.cell? ⟨w4.heap.size, 5, none⟩ = some (.int .i64 n0_5)) := Lib.hid ((G6.out.cell (p := ⟨w4.heap.size, 5, none⟩) (show w4.heap.size < _ from by have := LT5.out; omega)).trans CX0_5_5.out)
  have CX0_6_6 : Hid (w6.cell? ⟨w4.heap.size, 6, none⟩ = some (.int .i64 n0_6)) := Lib.hid ((G6.out.cell (p := ⟨w4.heap.size, 6, none⟩) (show w4.heap.size < _ from by have := LT5.out; omega)).trans CX0_6_5.out)
  have CX0_7_6 : Hid (w6.cell? ⟨w4.heap.size, 7, none⟩ = some (.int .i64 n0_7)) := Lib.hid ((G6.out.cell (p := ⟨w4.heap.size, 7, none⟩) (show w4.heap.size < _ from by have := LT5.out; omega)).trans CX0_7_5.out)
  have CX0_8_6 : Hid (w6.cell? ⟨w4.heap.size, 8, none⟩ = some (.int .i64 n0_8)) := Lib.hid ((G6.out.cell (p := ⟨w4.heap.size, 8, none⟩) (show w4.heap.size < _ from by have := LT5.out; omega)).trans CX0_8_5.out)
  have CX0_9_6 : Hid (w6.cell? ⟨w4.heap.size, 9, none⟩ = some (.int .i64 n0_9)) := Lib.hid ((G6.out.cell (p := ⟨w4.heap.size, 9, none⟩) (show w4.heap.size < _ from by have := LT5.out; omega)).trans CX0_9_5.out)
  have CX0_10_6 : Hid (w6.cell? ⟨w4.heap.size, 10, none⟩ = some (.slice XA0_10 xs0_10.length xs0_10.length)) := Lib.hid ((G6.out.cell (p := ⟨w4.heap.size, 10, none⟩) (show w4.heap.size < _ from by have := LT5.out; omega)).trans CX0_10_5.out)
  have CX0_11_6 : Hid (w6.cell? ⟨w4.heap.size, 11, none⟩ = some (.slice XA0_11 xs0_11.length xs0_11.length)) := Lib.hid ((G6.out.cell (p := ⟨w4.heap.size, 11, none⟩) (show w4.heap.size < _ from by have := LT5.out; omega)).trans CX0_11_5.out)
  have X0_0_6 : Hid (RiT w6.heap.size w6 (.slice XA0_0 xs0_0.length xs0_0.length) xs0_0) := Lib.hid (X0_0_5.out.at (Nat.le_refl _) G6.out)
  have X0_1_6 : Hid (RiU w6.heap.size w6 (.slice XA0_1 xs0_1.length xs0_1.length) xs0_1) := Lib.hid (X0_1_5.out.at (Nat.le_refl _) G6.out)
  have X0_10_6 : Hid (RiU w6.heap.size w6 (.slice XA0_10 xs0_10.length xs0_10.length) xs0_10) := Lib.hid (X0_10_5.out.at (Nat.le_refl _) G6.out)
  have X0_11_6 : Hid (RiU w6.heap.size w6 (.slice XA0_11 xs0_11.length xs0_11.length) xs0_11) := Lib.hid (X0_11_5.out.at (Nat.le_refl _) G6.out)
  have LT6 : Hid (w.heap.size + 1 ≤ w6.heap.size ∧ w4.heap.size < w6.heap.size) := Lib.hid (by have := LT5.out; have := SZ6.out; omega)
  have HSe0 : Hid (∀ W, Below w6.heap.size w6 W → W.cell? ⟨w.heap.size, 0, none⟩ = some (.slice A0_0 xs0_0.length c0_0) ∧ W.cell? ⟨w.heap.size, 1, none⟩ = some (.slice A0_1 xs0_1.length c0_1) ∧ W.cell? ⟨w.heap.size, 2, none⟩ = some (.int .i64 n0_2) ∧ W.cell? ⟨w.heap.size, 3, none⟩ = some (.bool n0_3) ∧ W.cell? ⟨w.heap.size, 4, none⟩ = some (.int .i64 n0_4) ∧ W.cell? ⟨w.heap.size, 5, none⟩ = some (.int .i64 n0_5) ∧ W.cell? ⟨w.heap.size, 6, none⟩ = some (.int .i64 n0_6) ∧ W.cell? ⟨w.heap.size, 7, none⟩ = some (.int .i64 n0_7) ∧ W.cell? ⟨w.heap.size, 8, none⟩ = some (.int .i64 n0_8) ∧ W.cell? ⟨w.heap.size, 9, none⟩ = some (.int .i64 n0_9) ∧ W.cell? ⟨w.heap.size, 10, none⟩ = some (.slice A0_10 xs0_10.length c0_10) ∧ W.cell? ⟨w.heap.size, 11, none⟩ = some (.slice A0_11 xs0_11.length c0_11) ∧ W.cell? ⟨w4.heap.size, 0, none⟩ = some (.slice XA0_0 xs0_0.length xs0_0.length) ∧ W.cell? ⟨w4.heap.size, 1, none⟩ = some (.slice XA0_1 xs0_1.length xs0_1.length) ∧ W.cell? ⟨w4.heap.size, 2, none⟩ = some (.int .i64 n0_2) ∧ W.cell? ⟨w4.heap.size, 3, none⟩ = some (.bool n0_3) ∧ W.cell? ⟨w4.heap.size, 4, none⟩ = some (.int .i64 n0_4) ∧ W.cell? ⟨w4.heap.size, 5, none⟩ = some (.int .i64 n0_5) ∧ W.cell? ⟨w4.heap.size, 6, none⟩ = some (.int .i64 n0_6) ∧ W.cell? ⟨w4.heap.size, 7, none⟩ = some (.int .i64 n0_7) ∧ W.cell? ⟨w4.heap.size, 8, none⟩ = some (.int .i64 n0_8) ∧ W.cell? ⟨w4.heap.size, 9, none⟩ = some (.int .i64 n0_9) ∧ W.cell? ⟨w4.heap.size, 10, none⟩ = some (.slice XA0_10 xs0_10.length xs0_10.length) ∧ W.cell? ⟨w4.heap.size, 11, none⟩ = some (.slice XA0_11 xs0_11.length xs0_11.length)) := Lib.hid (fun W hW => ⟨(hW.cell (p := ⟨w.heap.size, 0, none⟩) (show w.heap.size < _ from by have := LT6.out; omega)).trans Cc0_0_6.out, (hW.cell (p := ⟨w.heap.size, 1, none⟩) (show w.heap.size < _ from by have := LT6.out; omega)).trans Cc0_1_6.out, (hW.cell (p := ⟨w.heap.size, 2, none⟩) (show w.heap.size < _ from by have := LT6.out; omega)).trans Cc0_2_6.out, (hW.cell (p := ⟨w.heap.size, 3, none⟩) (show w.heap.size < _ from by have := LT6.out; omega)).trans Cc0_3_6.out, (hW.cell (p := ⟨w.heap.size, 4, none⟩) (show w.heap.size < _ from by have := LT6.out; omega)).trans Cc0_4_6.out, (hW.cell (p := ⟨w.heap.size, 5, none⟩) (show w.heap.size < _ from by have := LT6.out; omega)).trans Cc0_5_6.out, (hW.cell (p := ⟨w.heap.size, 6, none⟩) (show w.heap.size < _ from by have := LT6.out; omega)).trans Cc0_6_6.out, (hW.cell (p := ⟨w.heap.size, 7, none⟩) (show w.heap.size < _ from by have := LT6.out; omega)).trans Cc0_7_6.out, (hW.cell (p := ⟨w.heap.size, 8, none⟩) (show w.heap.size < _ from by have := LT6.out; omega)).trans Cc0_8_6.out, (hW.cell (p := ⟨w.heap.size, 9, none⟩) (show w.heap.size < _ from by have := LT6.out; omega)).trans Cc0_9_6.out, (hW.cell (p := ⟨w.heap.size, 10, none⟩) (show w.heap.size < _ from by have := LT6.out; omega)).trans Cc0_10_6.out, (hW.cell (p := ⟨w.heap.size, 11, none⟩) (show w.heap.size < _ from by have := LT6.out; omega)).trans Cc0_11_6.out, (hW.cell (p := ⟨w4.heap.size, 0, none⟩) (show w4.heap.size < _ from by have := LT6.out; omega)).trans CX0_0_6.out, (hW.cell (p := ⟨w4.heap.size, 1, none⟩) (show w4.heap.size < _ from by have := LT6.out; omega)).trans CX0_1_6.out, (hW.cell (p := ⟨w4.heap.size, 2, none⟩) (show w4.heap.size < _ from by have := LT6.out; omega)).trans CX0_2_6.out, (hW.cell (p := ⟨w4.heap.size, 3, none⟩) (show w4.heap.size < _ from by have := LT6.out; omega)).trans CX0_3_6.out, (hW.cell (p := ⟨w4.heap.size, 4, none⟩) (show w4.heap.size < _ from by have := LT6.out; omega)).trans CX0_4_6.out, (hW.cell (p := ⟨w4.heap.size, 5, none⟩) (show w4.heap.size < _ from by have := LT6.out; omega)).trans CX0_5_6.out, (hW.cell (p := ⟨w4.heap.size, 6, none⟩) (show w4.heap.size < _ from by have := LT6.out; omega)).trans CX0_6_6.out, (hW.cell (p := ⟨w4.heap.size, 7, none⟩) (show w4.heap.size < _ from by have := LT6.out; omega)).trans CX0_7_6.out, (hW.cell (p := ⟨w4.heap.size, 8, none⟩) (show w4.heap.size < _ from by have := LT6.out; omega)).trans CX0_8_6.out, (hW.cell (p := ⟨w4.heap.size, 9, none⟩) (show w4.heap.size < _ from by have := LT6.out; omega)).trans CX0_9_6.out, (hW.cell (p := ⟨w4.heap.size, 10, none⟩) (show w4.heap.size < _ from by have := LT6.out; omega)).trans CX0_10_6.out, (hW.cell (p := ⟨w4.heap.size, 11, none⟩) (show w4.heap.size < _ from by have := LT6.out; omega)).trans CX0_11_6.out⟩)
  have HBd : Hid (Below w.heap.size w w6.drew) := Lib.hid HB6.out.drew
  have qCc0_0_ := Cc0_0_6.out
  have qCc0_1_ := Cc0_1_6.out
  have qCc0_2_ := Cc0_2_6.out
  have qCc0_3_ := Cc0_3_6.out
  have qCc0_4_ := Cc0_4_6.out
  have qCc0_5_ := Cc0_5_6.out
  have qCc0_6_ := Cc0_6_6.out
  have qCc0_7_ := Cc0_7_6.out
  have qCc0_8_ := Cc0_8_6.out
  have qCc0_9_ := Cc0_9_6.out
  have qCc0_10_ := Cc0_10_6.out
  have qCc0_11_ := Cc0_11_6.out
  have qCX0_0_ := CX0_0_6.out
  have qCX0_1_ := CX0_1_6.out
  have qCX0_2_ := CX0_2_6.out
  have qCX0_3_ := CX0_3_6.out
  have qCX0_4_ := CX0_4_6.out
  have qCX0_5_ := CX0_5_6.out
  have qCX0_6_ := CX0_6_6.out
  have qCX0_7_ := CX0_7_6.out
  have qCX0_8_ := CX0_8_6.out
  have qCX0_9_ := CX0_9_6.out
  have qCX0_10_ := CX0_10_6.out
  have qCX0_11_ := CX0_11_6.out
  go_wp2
  clear qCc0_0_ qCc0_1_ qCc0_2_ qCc0_3_ qCc0_4_ qCc0_5_ qCc0_6_ qCc0_7_ qCc0_8_ qCc0_9_ qCc0_10_ qCc0_11_ qCX0_0_ qCX0_1_ qCX0_2_ qCX0_3_ qCX0_4_ qCX0_5_ qCX0_6_ qCX0_7_ qCX0_8_ qCX0_9_ qCX0_10_ qCX0_11_
  go_region_held3 (fun W => W.cell? ⟨w.heap.size, 0, none⟩ = some (.slice A0_0 xs0_0.length c0_0) ∧ W.cell? ⟨w.heap.size, 1, none⟩ = some (.slice A0_1 xs0_1.length c0_1) ∧ W.cell? ⟨w.heap.size, 2, none⟩ = some (.int .i64 n0_2) ∧ W.cell? ⟨w.heap.size, 3, none⟩ = some (.bool n0_3) ∧ W.cell? ⟨w.heap.size, 4, none⟩ = some (.int .i64 n0_4) ∧ W.cell? ⟨w.heap.size, 5, none⟩ = some (.int .i64 n0_5) ∧ W.cell? ⟨w.heap.size, 6, none⟩ = some (.int .i64 n0_6) ∧ W.cell? ⟨w.heap.size, 7, none⟩ = some (.int .i64 n0_7) ∧ W.cell? ⟨w.heap.size, 8, none⟩ = some (.int .i64 n0_8) ∧ W.cell? ⟨w.heap.size, 9, none⟩ = some (.int .i64 n0_9) ∧ W.cell? ⟨w.heap.size, 10, none⟩ = some (.slice A0_10 xs0_10.length c0_10) ∧ W.cell? ⟨w.heap.size, 11, none⟩ = some (.slice A0_11 xs0_11.length c0_11) ∧ W.cell? ⟨w4.heap.size, 0, none⟩ = some (.slice XA0_0 xs0_0.length xs0_0.length) ∧ W.cell? ⟨w4.heap.size, 1, none⟩ = some (.slice XA0_1 xs0_1.length xs0_1.length) ∧ W.cell? ⟨w4.heap.size, 2, none⟩ = some (.int .i64 n0_2) ∧ W.cell? ⟨w4.heap.size, 3, none⟩ = some (.bool n0_3) ∧ W.cell? ⟨w4.heap.size, 4, none⟩ = some (.int .i64 n0_4) ∧ W.cell? ⟨w4.heap.size, 5, none⟩ = some (.int .i64 n0_5) ∧ W.cell? ⟨w4.heap.size, 6, none⟩ = some (.int .i64 n0_6) ∧ W.cell? ⟨w4.heap.size, 7, none⟩ = some (.int .i64 n0_7) ∧ W.cell? ⟨w4.heap.size, 8, none⟩ = some (.int .i64 n0_8) ∧ W.cell? ⟨w4.heap.size, 9, none⟩ = some (.int .i64 n0_9) ∧ W.cell? ⟨w4.heap.size, 10, none⟩ = some (.slice XA0_10 xs0_10.length xs0_10.length) ∧ W.cell? ⟨w4.heap.size, 11, none⟩ = some (.slice XA0_11 xs0_11.length xs0_11.length)) (exact HSe0.out _ (by first | exact kbe01 | exact kbe00 | exact (Below.refl _ _).drew))
    ((first | (go_at_call 23; go_fit (toPager_rd (H0_0.out.at (Nat.le_refl _) (HB6.out.trans (((Below.refl _ _).drew).mono HB6.out.size))) (H0_1.out.at (Nat.le_refl _) (HB6.out.trans (((Below.refl _ _).drew).mono HB6.out.size))) (H0_10.out.at (Nat.le_refl _) (HB6.out.trans (((Below.refl _ _).drew).mono HB6.out.size))) (H0_11.out.at (Nat.le_refl _) (HB6.out.trans (((Below.refl _ _).drew).mono HB6.out.size))) (Nat.le_refl _) SM0.out); rintro e ue00 ⟨EA0_0, EA0_1, EA0_10, EA0_11, rfl, r0_0, r0_1, r0_10, r0_11, ge00⟩; have E0_0d := Lib.hid r0_0; clear r0_0; have E0_1d := Lib.hid r0_1; clear r0_1; have E0_10d := Lib.hid r0_10; clear r0_10; have E0_11d := Lib.hid r0_11; clear r0_11; have kbe00 : Below w6.heap.size w6 ue00 := ((Below.refl _ _).drew.trans ge00)) | (go_at_call 25; go_fit (eqPager_any (X0_0_6.out.at (Nat.le_refl _) (kbe00)) (X0_1_6.out.at (Nat.le_refl _) (kbe00)) (X0_10_6.out.at (Nat.le_refl _) (kbe00)) (X0_11_6.out.at (Nat.le_refl _) (kbe00)) E0_0d.out E0_1d.out E0_10d.out E0_11d.out (Nat.le_refl _)); rintro e w7 ⟨rfl, ge01⟩; have kbe01 : Below w6.heap.size w6 w7 := (kbe00.trans (ge01.mono kbe00.size)))))
  try simp only [Exit.then]
  have SZ7 := Lib.hid kbe01.size; have G7 := Lib.hid kbe01
  have HB7 : Hid (Below w.heap.size w w7) := Lib.hid (HB6.out.trans (G7.out.mono HB6.out.size))
  have Cc0_0_7 : Hid (w7.cell? ⟨w.heap.size, 0, none⟩ = some (.slice A0_0 xs0_0.length c0_0)) := Lib.hid ((G7.out.cell (p := ⟨w.heap.size, 0, none⟩) (show w.heap.size < _ from by have := LT6.out; omega)).trans Cc0_0_6.out)
  have Cc0_1_7 : Hid (w7.cell? ⟨w.heap.size, 1, none⟩ = some (.slice A0_1 xs0_1.length c0_1)) := Lib.hid ((G7.out.cell (p := ⟨w.heap.size, 1, none⟩) (show w.heap.size < _ from by have := LT6.out; omega)).trans Cc0_1_6.out)
  have Cc0_2_7 : Hid (w7.cell? ⟨w.heap.size, 2, none⟩ = some (.int .i64 n0_2)) := Lib.hid ((G7.out.cell (p := ⟨w.heap.size, 2, none⟩) (show w.heap.size < _ from by have := LT6.out; omega)).trans Cc0_2_6.out)
  have Cc0_3_7 : Hid (w7.cell? ⟨w.heap.size, 3, none⟩ = some (.bool n0_3)) := Lib.hid ((G7.out.cell (p := ⟨w.heap.size, 3, none⟩) (show w.heap.size < _ from by have := LT6.out; omega)).trans Cc0_3_6.out)
  have Cc0_4_7 : Hid (w7.cell? ⟨w.heap.size, 4, none⟩ = some (.int .i64 n0_4)) := Lib.hid ((G7.out.cell (p := ⟨w.heap.size, 4, none⟩) (show w.heap.size < _ from by have := LT6.out; omega)).trans Cc0_4_6.out)
  have Cc0_5_7 : Hid (w7.cell? ⟨w.heap.size, 5, none⟩ = some (.int .i64 n0_5)) := Lib.hid ((G7.out.cell (p := ⟨w.heap.size, 5, none⟩) (show w.heap.size < _ from by have := LT6.out; omega)).trans Cc0_5_6.out)
  have Cc0_6_7 : Hid (w7.cell? ⟨w.heap.size, 6, none⟩ = some (.int .i64 n0_6)) := Lib.hid ((G7.out.cell (p := ⟨w.heap.size, 6, none⟩) (show w.heap.size < _ from by have := LT6.out; omega)).trans Cc0_6_6.out)
  have Cc0_7_7 : Hid (w7.cell? ⟨w.heap.size, 7, none⟩ = some (.int .i64 n0_7)) := Lib.hid ((G7.out.cell (p := ⟨w.heap.size, 7, none⟩) (show w.heap.size < _ from by have := LT6.out; omega)).trans Cc0_7_6.out)
  have Cc0_8_7 : Hid (w7.cell? ⟨w.heap.size, 8, none⟩ = some (.int .i64 n0_8)) := Lib.hid ((G7.out.cell (p := ⟨w.heap.size, 8, none⟩) (show w.heap.size < _ from by have := LT6.out; omega)).trans Cc0_8_6.out)
  have Cc0_9_7 : Hid (w7.cell? ⟨w.heap.size, 9, none⟩ = some (.int .i64 n0_9)) := Lib.hid ((G7.out.cell (p := ⟨w.heap.size, 9, none⟩) (show w.heap.size < _ from by have := LT6.out; omega)).trans Cc0_9_6.out)
  have Cc0_10_7 : Hid (w7.cell? ⟨w.heap.size, 10, none⟩ = some (.slice A0_10 xs0_10.length c0_10)) := Lib.hid ((G7.out.cell (p := ⟨w.heap.size, 10, none⟩) (show w.heap.size < _ from by have := LT6.out; omega)).trans Cc0_10_6.out)
  have Cc0_11_7 : Hid (w7.cell? ⟨w.heap.size, 11, none⟩ = some (.slice A0_11 xs0_11.length c0_11)) := Lib.hid ((G7.out.cell (p := ⟨w.heap.size, 11, none⟩) (show w.heap.size < _ from by have := LT6.out; omega)).trans Cc0_11_6.out)
  have CX0_0_7 : Hid (w7.cell? ⟨w4.heap.size, 0, none⟩ = some (.slice XA0_0 xs0_0.length xs0_0.length)) := Lib.hid ((G7.out.cell (p := ⟨w4.heap.size, 0, none⟩) (show w4.heap.size < _ from by have := LT6.out; omega)).trans CX0_0_6.out)
  have CX0_1_7 : Hid (w7.cell? ⟨w4.heap.size, 1, none⟩ = some (.slice XA0_1 xs0_1.length xs0_1.length)) := Lib.hid ((G7.out.cell (p := ⟨w4.heap.size, 1, none⟩) (show w4.heap.size < _ from by have := LT6.out; omega)).trans CX0_1_6.out)
  have CX0_2_7 : Hid (w7.cell? ⟨w4.heap.size, 2, none⟩ = some (.int .i64 n0_2)) := Lib.hid ((G7.out.cell (p := ⟨w4.heap.size, 2, none⟩) (show w4.heap.size < _ from by have := LT6.out; omega)).trans CX0_2_6.out)
  have CX0_3_7 : Hid (w7.cell? ⟨w4.heap.size, 3, none⟩ = some (.bool n0_3)) := Lib.hid ((G7.out.cell (p := ⟨w4.heap.size, 3, none⟩) (show w4.heap.size < _ from by have := LT6.out; omega)).trans CX0_3_6.out)
  have CX0_4_7 : Hid (w7.cell? ⟨w4.heap.size, 4, none⟩ = some (.int .i64 n0_4)) := Lib.hid ((G7.out.cell (p := ⟨w4.heap.size, 4, none⟩) (show w4.heap.size < _ from by have := LT6.out; omega)).trans CX0_4_6.out)
  have CX0_5_7 : Hid (w7.cell? ⟨w4.heap.size, 5, none⟩ = some (.int .i64 n0_5)) := Lib.hid ((G7.out.cell (p := ⟨w4.heap.size, 5, none⟩) (show w4.heap.size < _ from by have := LT6.out; omega)).trans CX0_5_6.out)
  have CX0_6_7 : Hid (w7.cell? ⟨w4.heap.size, 6, none⟩ = some (.int .i64 n0_6)) := Lib.hid ((G7.out.cell (p := ⟨w4.heap.size, 6, none⟩) (show w4.heap.size < _ from by have := LT6.out; omega)).trans CX0_6_6.out)
  have CX0_7_7 : Hid (w7.cell? ⟨w4.heap.size, 7, none⟩ = some (.int .i64 n0_7)) := Lib.hid ((G7.out.cell (p := ⟨w4.heap.size, 7, none⟩) (show w4.heap.size < _ from by have := LT6.out; omega)).trans CX0_7_6.out)
  have CX0_8_7 : Hid (w7.cell? ⟨w4.heap.size, 8, none⟩ = some (.int .i64 n0_8)) := Lib.hid ((G7.out.cell (p := ⟨w4.heap.size, 8, none⟩) (show w4.heap.size < _ from by have := LT6.out; omega)).trans CX0_8_6.out)
  have CX0_9_7 : Hid (w7.cell? ⟨w4.heap.size, 9, none⟩ = some (.int .i64 n0_9)) := Lib.hid ((G7.out.cell (p := ⟨w4.heap.size, 9, none⟩) (show w4.heap.size < _ from by have := LT6.out; omega)).trans CX0_9_6.out)
  have CX0_10_7 : Hid (w7.cell? ⟨w4.heap.size, 10, none⟩ = some (.slice XA0_10 xs0_10.length xs0_10.length)) := Lib.hid ((G7.out.cell (p := ⟨w4.heap.size, 10, none⟩) (show w4.heap.size < _ from by have := LT6.out; omega)).trans CX0_10_6.out)
  have CX0_11_7 : Hid (w7.cell? ⟨w4.heap.size, 11, none⟩ = some (.slice XA0_11 xs0_11.length xs0_11.length)) := Lib.hid ((G7.out.cell (p := ⟨w4.heap.size, 11, none⟩) (show w4.heap.size < _ from by have := LT6.out; omega)).trans CX0_11_6.out)
  have X0_0_7 : Hid (RiT w7.heap.size w7 (.slice XA0_0 xs0_0.length xs0_0.length) xs0_0) := Lib.hid (X0_0_6.out.at (Nat.le_refl _) G7.out)
  have X0_1_7 : Hid (RiU w7.heap.size w7 (.slice XA0_1 xs0_1.length xs0_1.length) xs0_1) := Lib.hid (X0_1_6.out.at (Nat.le_refl _) G7.out)
  have X0_10_7 : Hid (RiU w7.heap.size w7 (.slice XA0_10 xs0_10.length xs0_10.length) xs0_10) := Lib.hid (X0_10_6.out.at (Nat.le_refl _) G7.out)
  have X0_11_7 : Hid (RiU w7.heap.size w7 (.slice XA0_11 xs0_11.length xs0_11.length) xs0_11) := Lib.hid (X0_11_6.out.at (Nat.le_refl _) G7.out)
  have LT7 : Hid (w.heap.size + 1 ≤ w7.heap.size ∧ w4.heap.size < w7.heap.size) := Lib.hid (by have := LT6.out; have := SZ7.out; omega)
  have qCc0_0_ := Cc0_0_7.out
  have qCc0_1_ := Cc0_1_7.out
  have qCc0_2_ := Cc0_2_7.out
  have qCc0_3_ := Cc0_3_7.out
  have qCc0_4_ := Cc0_4_7.out
  have qCc0_5_ := Cc0_5_7.out
  have qCc0_6_ := Cc0_6_7.out
  have qCc0_7_ := Cc0_7_7.out
  have qCc0_8_ := Cc0_8_7.out
  have qCc0_9_ := Cc0_9_7.out
  have qCc0_10_ := Cc0_10_7.out
  have qCc0_11_ := Cc0_11_7.out
  have qCX0_0_ := CX0_0_7.out
  have qCX0_1_ := CX0_1_7.out
  have qCX0_2_ := CX0_2_7.out
  have qCX0_3_ := CX0_3_7.out
  have qCX0_4_ := CX0_4_7.out
  have qCX0_5_ := CX0_5_7.out
  have qCX0_6_ := CX0_6_7.out
  have qCX0_7_ := CX0_7_7.out
  have qCX0_8_ := CX0_8_7.out
  have qCX0_9_ := CX0_9_7.out
  have qCX0_10_ := CX0_10_7.out
  have qCX0_11_ := CX0_11_7.out
  go_wp2_with fail
  clear qCc0_0_ qCc0_1_ qCc0_2_ qCc0_3_ qCc0_4_ qCc0_5_ qCc0_6_ qCc0_7_ qCc0_8_ qCc0_9_ qCc0_10_ qCc0_11_ qCX0_0_ qCX0_1_ qCX0_2_ qCX0_3_ qCX0_4_ qCX0_5_ qCX0_6_ qCX0_7_ qCX0_8_ qCX0_9_ qCX0_10_ qCX0_11_
  go_ret
  exact ⟨rfl, HB7.out⟩
theorem own : ownKnob Try.prog.godebug = none := by kernel_rfl
theorem laidOut : laidOutB Try.prog = true := by kernel_rfl
set_option maxRecDepth 100000 in
theorem lifted (os : Os) (started : os.Started) (H : Type) (enc : TypeId × Value → H) :
    ReturnsInHanded {} Try.checked os 6 .any (Rows.fnExactFreeCountSpec.pre6 enc Try.prog Try.f6 Rows.fnExactFreeCountRow.domain false) (Rows.fnExactFreeCountSpec.post enc Try.prog Try.f6 false true false false) := by
  refine returnsInHanded_of_change (C := Try.checked) own started (by kernel_rfl) Try.func6
    (ChangeSpec.witness6 (enc := enc) (C := Try.checked) false ⟨#[], #[.agg #[.slice none 0 0, .slice none 0 0, .int .i64 0, .bool false, .int .i64 0, .int .i64 0, .int .i64 0, .int .i64 0, .int .i64 0, .int .i64 0, .slice none 0 0, .slice none 0 0]], []⟩ 8 (by kernel_rfl) (by kernel_rfl) (by kernel_rfl) (by kernel_rfl)) ?_
  intro W base args ds gs before hval0 hW hcnd _
  have hval : ∀ (j : Nat) t v, Try.f6.params[j]? = some t → args[j]? = some v → Value.okWide Try.prog W .any base t v := hval0
  have hW' := hW
  obtain ⟨p, q, hA0, hV, rfl, hfz, hnd⟩ := hW
  have hA : DataW.TrodAll enc Try.prog W 0 (fun _ => true) true Try.f6.params.toList args.toList ds p := hA0
  rw [Try.params6] at hA hval
  obtain ⟨v0, vs0, d0, ds0, p0, q0, hargs, rfl, rfl, h0, r0⟩ := trodAll_cons hA
  obtain ⟨rfl, rfl, rfl⟩ := trodAll_nil r0
  obtain rfl : args = #[v0] := by cases args; simp_all
  obtain ⟨rfl, rfl⟩ := trodVars_none hV
  have k0 := h0
  have lt0 : ∀ x ∈ p0, x.block < W.heap.size := by obtain ⟨m, hm⟩ := k0; exact DataW.trod_lt m _ _ _ hm
  obtain ⟨v0_0, xs0_0, v0_1, xs0_1, n0_2, n0_3, n0_4, n0_5, n0_6, n0_7, n0_8, n0_9, v0_10, xs0_10, v0_11, xs0_11, rfl, g0_0, g0_1, g0_2, g0_4, g0_5, g0_6, g0_7, g0_8, g0_9, g0_10, g0_11⟩ := open_pager (hval 0 32 v0 rfl rfl) h0
  clear hA0 hval0
  refine (walk W _ _ _ _ _ _ _ _ _ _ _ _ _ _ _ _ g0_0 g0_1 g0_2 g0_4 g0_5 g0_6 g0_7 g0_8 g0_9 g0_10 g0_11).mono fun e W' ⟨he, bel⟩ => ?_
  subst he
  exact ⟨_, rfl, _, _, _, [], _, [], hW', (trodAll_cons_mk (shut_bool Try.underlying4 _) trodAll_mk0), (trodAll_cons_mk (Below.trod laidOut (by kernel_rfl) (of_decide_eq_true (by kernel_rfl)) k0 bel lt0) trodAll_mk0), rfl, bel.frame _, fun h => by cases h⟩
theorem closed : joinedFacts Try.pinned.checked.prog 6 Try.f6 Rows.fnExactFreeCountSpec Rows.fnExactFreeCountRow = true := by
  unfold joinedFacts
  rw [mayE, lifF, mkP]
  kernel_rfl
theorem over : Rows.fnExactFreeCountRow.holds Try.pinned (OpenSpec.ofChange Rows.fnExactFreeCountSpec) :=
  OpenClaim.holds_of_wide 6 Try.f6 rfl rfl rfl rfl rfl rfl rfl ⟨rfl, rfl, rfl, rfl, rfl⟩ rfl rfl rfl rfl rfl (by kernel_rfl) Try.func6 closed
    (of_decide_eq_true (by kernel_rfl)) (by unfold Func.isWrapper; rw [if_neg (of_decide_eq_false (by kernel_rfl))]; exact ⟨rfl, rfl⟩)
    (fun os started H enc _ => lifted os started H enc)
theorem proved : Rows.FnExactFreeCountSaid := over
end Go.Proofs.Ytlickjmdlooapaa.fnExactFreeCount
