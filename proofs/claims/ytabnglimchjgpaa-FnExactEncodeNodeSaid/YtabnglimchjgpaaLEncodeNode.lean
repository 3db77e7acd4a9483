/- The statement of the law FnExactEncodeNode: whatever the input, the program's function answers as the model's, and the input reads as it did. Its conditions are the given statement's own; nothing is added. -/
import Derived.Test.YtabnglimchjgpaaJf
import Derived.Test.YtabnglimchjgpaaJf
import Derived.Test.YtabnglimchjgpaaFrmJ
import Derived.Test.YtabnglimchjgpaaNdE
import Derived.Test.YtabnglimchjgpaaNdI
import Derived.ProofKit
import Derived.OpenShut
import Derived.ShutString
import Derived.ChangeOld
import Derived.Below
import Derived.Deep.DeepFit
import Derived.Deep.WholeRow
import Derived.Deep.RegionHeld3
namespace Go.Proofs.Ytabnglimchjgpaa.fnExactEncodeNode
open Go.ChangeShapes Go.WideShapes Go.ChangeAt Go.RowKit
open Go.ChangeMaps (open_string shut_string)
set_option linter.unusedVariables false
set_option maxHeartbeats 4000000 in
set_option maxRecDepth 100000 in
theorem walk (w : World) (n0_0 : Bool) (v0_1 : Value) (xs0_1 : List EC) (v0_2 : Value) (xs0_2 : List Int) (v0_3 : Value) (xs0_3 : List Int) (h0_1 : RiC w.heap.size w v0_1 xs0_1) (h0_2 : Ri w.heap.size w v0_2 xs0_2) (h0_3 : Ri w.heap.size w v0_3 xs0_3) :
    Calls Try.prog 12 #[.agg #[.bool n0_0, v0_1, v0_2, v0_3]] w (GivesB (.bool true) w) := by
  have H0_1 := Lib.hid h0_1; obtain ⟨A0_1, c0_1, rfl, _⟩ := h0_1
  have H0_2 := Lib.hid h0_2; obtain ⟨A0_2, c0_2, rfl, _⟩ := h0_2
  have H0_3 := Lib.hid h0_3; obtain ⟨A0_3, c0_3, rfl, _⟩ := h0_3
  have HB0 : Hid (Below w.heap.size w (w.alloc (.cells #[.bool n0_0, .slice A0_1 xs0_1.length c0_1, .slice A0_2 xs0_2.length c0_2, .slice A0_3 xs0_3.length c0_3] 49))) := Lib.hid ((Below.refl _ _).alloc (Nat.le_refl _) _)
  have Z0 : Hid ((w.alloc (.cells #[.bool n0_0, .slice A0_1 xs0_1.length c0_1, .slice A0_2 xs0_2.length c0_2, .slice A0_3 xs0_3.length c0_3] 49)).heap.size = w.heap.size + 1) := Lib.hid (by simp)
  have Cc0_0_0 : Hid ((w.alloc (.cells #[.bool n0_0, .slice A0_1 xs0_1.length c0_1, .slice A0_2 xs0_2.length c0_2, .slice A0_3 xs0_3.length c0_3] 49)).cell? ⟨w.heap.size, 0, none⟩ = some (.bool n0_0)) := Lib.hid (by
    rw [cell_of_row _ _ _ _ _ _ (heap_alloc_new w _)]; rfl)
  have Cc0_1_0 : Hid ((w.alloc (.cells #[.bool n0_0, .slice A0_1 xs0_1.length c0_1, .slice A0_2 xs0_2.length c0_2, .slice A0_3 xs0_3.length c0_3] 49)).cell? ⟨w.heap.size, 1, none⟩ = some (.slice A0_1 xs0_1.length c0_1)) := Lib.hid (by
    rw [cell_of_row _ _ _ _ _ _ (heap_alloc_new w _)]; rfl)
  have Cc0_2_0 : Hid ((w.alloc (.cells #[.bool n0_0, .slice A0_1 xs0_1.length c0_1, .slice A0_2 xs0_2.length c0_2, .slice A0_3 xs0_3.length c0_3] 49)).cell? ⟨w.heap.size, 2, none⟩ = some (.slice A0_2 xs0_2.length c0_2)) := Lib.hid (by
    rw [cell_of_row _ _ _ _ _ _ (heap_alloc_new w _)]; rfl)
  have Cc0_3_0 : Hid ((w.alloc (.cells #[.bool n0_0, .slice A0_1 xs0_1.length c0_1, .slice A0_2 xs0_2.length c0_2, .slice A0_3 xs0_3.length c0_3] 49)).cell? ⟨w.heap.size, 3, none⟩ = some (.slice A0_3 xs0_3.length c0_3)) := Lib.hid (by
    rw [cell_of_row _ _ _ _ _ _ (heap_alloc_new w _)]; rfl)
  go_enter Try.func12, Try.ntmps12
  go_wp2_with fail
  generalize (w.alloc (.cells #[.bool n0_0, .slice A0_1 xs0_1.length c0_1, .slice A0_2 xs0_2.length c0_2, .slice A0_3 xs0_3.length c0_3] 49)) = w0 at *
  have LT0 : Hid (w.heap.size + 1 ≤ w0.heap.size) := Lib.hid (by have := Z0.out; omega)
  refine (szNode_any (H0_1.out.at (Nat.le_refl _) HB0.out) (H0_2.out.at (Nat.le_refl _) HB0.out) (H0_3.out.at (Nat.le_refl _) HB0.out) (Nat.le_refl _) (1048576) (by omega) (by omega)).mono ?_
  rintro e w1 ⟨l0, rfl, hl0, hL0, hp0, g⟩
  have P0 := Lib.hid hp0; have G1 := Lib.hid g; have SZ1 := Lib.hid g.size; clear hp0 g
  have HB1 : Hid (Below w.heap.size w w1) := Lib.hid (HB0.out.trans (G1.out.mono HB0.out.size))
  have Cc0_0_1 : Hid (w1.cell? ⟨w.heap.size, 0, none⟩ = some (.bool n0_0)) := Lib.hid ((G1.out.cell (p := ⟨w.heap.size, 0, none⟩) (show w.heap.size < _ from by have := LT0.out; omega)).trans Cc0_0_0.out)
  have Cc0_1_1 : Hid (w1.cell? ⟨w.heap.size, 1, none⟩ = some (.slice A0_1 xs0_1.length c0_1)) := Lib.hid ((G1.out.cell (p := ⟨w.heap.size, 1, none⟩) (show w.heap.size < _ from by have := LT0.out; omega)).trans Cc0_1_0.out)
  have Cc0_2_1 : Hid (w1.cell? ⟨w.heap.size, 2, none⟩ = some (.slice A0_2 xs0_2.length c0_2)) := Lib.hid ((G1.out.cell (p := ⟨w.heap.size, 2, none⟩) (show w.heap.size < _ from by have := LT0.out; omega)).trans Cc0_2_0.out)
  have Cc0_3_1 : Hid (w1.cell? ⟨w.heap.size, 3, none⟩ = some (.slice A0_3 xs0_3.length c0_3)) := Lib.hid ((G1.out.cell (p := ⟨w.heap.size, 3, none⟩) (show w.heap.size < _ from by have := LT0.out; omega)).trans Cc0_3_0.out)
  have LT1 : Hid (w.heap.size + 1 ≤ w1.heap.size) := Lib.hid (by have := LT0.out; have := SZ1.out; omega)
  by_cases neg0 : l0 < 0
  · skip
    have qCc0_0_ := Cc0_0_1.out
    have qCc0_1_ := Cc0_1_1.out
    have qCc0_2_ := Cc0_2_1.out
    have qCc0_3_ := Cc0_3_1.out
    go_wp2_with fail
    go_ret
    exact ⟨rfl, HB1.out⟩
  have SM0 := Lib.hid (P0.out (by omega))
  have qCc0_0_ := Cc0_0_1.out
  have qCc0_1_ := Cc0_1_1.out
  have qCc0_2_ := Cc0_2_1.out
  have qCc0_3_ := Cc0_3_1.out
  go_wp2_with fail
  clear qCc0_0_ qCc0_1_ qCc0_2_ qCc0_3_
  refine (toNode_rd (H0_1.out.at (Nat.le_refl _) HB1.out) (H0_2.out.at (Nat.le_refl _) HB1.out) (H0_3.out.at (Nat.le_refl _) HB1.out) (Nat.le_refl _) SM0.out).mono ?_
  rintro e w2 ⟨SA0_1, SA0_2, SA0_3, rfl, r0_1, r0_2, r0_3, g⟩
  have G2 := Lib.hid g; have SZ2 := Lib.hid g.size; clear g
  have S0_1_2 : Hid (RiC w2.heap.size w2 (.slice SA0_1 xs0_1.length xs0_1.length) xs0_1) := Lib.hid r0_1; clear r0_1
  have S0_2_2 : Hid (Ri w2.heap.size w2 (.slice SA0_2 xs0_2.length xs0_2.length) xs0_2) := Lib.hid r0_2; clear r0_2
  have S0_3_2 : Hid (Ri w2.heap.size w2 (.slice SA0_3 xs0_3.length xs0_3.length) xs0_3) := Lib.hid r0_3; clear r0_3
  have HB2 : Hid (Below w.heap.size w w2) := Lib.hid (HB1.out.trans (G2.out.mono HB1.out.size))
  have Cc0_0_2 : Hid (w2.cell? ⟨w.heap.size, 0, none⟩ = some (.bool n0_0)) := Lib.hid ((G2.out.cell (p := ⟨w.heap.size, 0, none⟩) (show w.heap.size < _ from by have := LT1.out; omega)).trans Cc0_0_1.out)
  have Cc0_1_2 : Hid (w2.cell? ⟨w.heap.size, 1, none⟩ = some (.slice A0_1 xs0_1.length c0_1)) := Lib.hid ((G2.out.cell (p := ⟨w.heap.size, 1, none⟩) (show w.heap.size < _ from by have := LT1.out; omega)).trans Cc0_1_1.out)
  have Cc0_2_2 : Hid (w2.cell? ⟨w.heap.size, 2, none⟩ = some (.slice A0_2 xs0_2.length c0_2)) := Lib.hid ((G2.out.cell (p := ⟨w.heap.size, 2, none⟩) (show w.heap.size < _ from by have := LT1.out; omega)).trans Cc0_2_1.out)
  have Cc0_3_2 : Hid (w2.cell? ⟨w.heap.size, 3, none⟩ = some (.slice A0_3 xs0_3.length c0_3)) := Lib.hid ((G2.out.cell (p := ⟨w.heap.size, 3, none⟩) (show w.heap.size < _ from by have := LT1.out; omega)).trans Cc0_3_1.out)
  have LT2 : Hid (w.heap.size + 1 ≤ w2.heap.size) := Lib.hid (by have := LT1.out; have := SZ2.out; omega)
  have qCc0_0_ := Cc0_0_2.out
  have qCc0_1_ := Cc0_1_2.out
  have qCc0_2_ := Cc0_2_2.out
  have qCc0_3_ := Cc0_3_2.out
  go_wp2_with fail
  clear qCc0_0_ qCc0_1_ qCc0_2_ qCc0_3_
  refine (specEncodeNode_any S0_1_2.out S0_2_2.out S0_3_2.out (Nat.le_refl _)).mono ?_
  rintro e w3 ⟨rfl, g⟩
  have G3 := Lib.hid g; have SZ3 := Lib.hid g.size; clear g
  have HB3 : Hid (Below w.heap.size w w3) := Lib.hid (HB2.out.trans (G3.out.mono HB2.out.size))
  have Cc0_0_3 : Hid (w3.cell? ⟨w.heap.size, 0, none⟩ = some (.bool n0_0)) := Lib.hid ((G3.out.cell (p := ⟨w.heap.size, 0, none⟩) (show w.heap.size < _ from by have := LT2.out; omega)).trans Cc0_0_2.out)
  have Cc0_1_3 : Hid (w3.cell? ⟨w.heap.size, 1, none⟩ = some (.slice A0_1 xs0_1.length c0_1)) := Lib.hid ((G3.out.cell (p := ⟨w.heap.size, 1, none⟩) (show w.heap.size < _ from by have := LT2.out; omega)).trans Cc0_1_2.out)
  have Cc0_2_3 : Hid (w3.cell? ⟨w.heap.size, 2, none⟩ = some (.slice A0_2 xs0_2.length c0_2)) := Lib.hid ((G3.out.cell (p := ⟨w.heap.size, 2, none⟩) (show w.heap.size < _ from by have := LT2.out; omega)).trans Cc0_2_2.out)
  have Cc0_3_3 : Hid (w3.cell? ⟨w.heap.size, 3, none⟩ = some (.slice A0_3 xs0_3.length c0_3)) := Lib.hid ((G3.out.cell (p := ⟨w.heap.size, 3, none⟩) (show w.heap.size < _ from by have := LT2.out; omega)).trans Cc0_3_2.out)
  have S0_1_3 : Hid (RiC w3.heap.size w3 (.slice SA0_1 xs0_1.length xs0_1.length) xs0_1) := Lib.hid (S0_1_2.out.at (Nat.le_refl _) G3.out)
  have S0_2_3 : Hid (Ri w3.heap.size w3 (.slice SA0_2 xs0_2.length xs0_2.length) xs0_2) := Lib.hid (S0_2_2.out.at (Nat.le_refl _) G3.out)
  have S0_3_3 : Hid (Ri w3.heap.size w3 (.slice SA0_3 xs0_3.length xs0_3.length) xs0_3) := Lib.hid (S0_3_2.out.at (Nat.le_refl _) G3.out)
  have LT3 : Hid (w.heap.size + 1 ≤ w3.heap.size) := Lib.hid (by have := LT2.out; have := SZ3.out; omega)
  have qCc0_0_ := Cc0_0_3.out
  have qCc0_1_ := Cc0_1_3.out
  have qCc0_2_ := Cc0_2_3.out
  have qCc0_3_ := Cc0_3_3.out
  go_wp2_with fail
  clear qCc0_0_ qCc0_1_ qCc0_2_ qCc0_3_
  refine (toNode_rd (H0_1.out.at (Nat.le_refl _) HB3.out) (H0_2.out.at (Nat.le_refl _) HB3.out) (H0_3.out.at (Nat.le_refl _) HB3.out) (Nat.le_refl _) SM0.out).mono ?_
  rintro e w4 ⟨XA0_1, XA0_2, XA0_3, rfl, r0_1, r0_2, r0_3, g⟩
  have G4 := Lib.hid g; have SZ4 := Lib.hid g.size; clear g
  have X0_1_4 : Hid (RiC w4.heap.size w4 (.slice XA0_1 xs0_1.length xs0_1.length) xs0_1) := Lib.hid r0_1; clear r0_1
  have X0_2_4 : Hid (Ri w4.heap.size w4 (.slice XA0_2 xs0_2.length xs0_2.length) xs0_2) := Lib.hid r0_2; clear r0_2
  have X0_3_4 : Hid (Ri w4.heap.size w4 (.slice XA0_3 xs0_3.length xs0_3.length) xs0_3) := Lib.hid r0_3; clear r0_3
  have HB4 : Hid (Below w.heap.size w w4) := Lib.hid (HB3.out.trans (G4.out.mono HB3.out.size))
  have Cc0_0_4 : Hid (w4.cell? ⟨w.heap.size, 0, none⟩ = some (.bool n0_0)) := Lib.hid ((G4.out.cell (p := ⟨w.heap.size, 0, none⟩) (show w.heap.size < _ from by have := LT3.out; omega)).trans Cc0_0_3.out)
  have Cc0_1_4 : Hid (w4.cell? ⟨w.heap.size, 1, none⟩ = some (.slice A0_1 xs0_1.length c0_1)) := Lib.hid ((G4.out.cell (p := ⟨w.heap.size, 1, none⟩) (show w.heap.size < _ from by have := LT3.out; omega)).trans Cc0_1_3.out)
  have Cc0_2_4 : Hid (w4.cell? ⟨w.heap.size, 2, none⟩ = some (.slice A0_2 xs0_2.length c0_2)) := Lib.hid ((G4.out.cell (p := ⟨w.heap.size, 2, none⟩) (show w.heap.size < _ from by have := LT3.out; omega)).trans Cc0_2_3.out)
  have Cc0_3_4 : Hid (w4.cell? ⟨w.heap.size, 3, none⟩ = some (.slice A0_3 xs0_3.length c0_3)) := Lib.hid ((G4.out.cell (p := ⟨w.heap.size, 3, none⟩) (show w.heap.size < _ from by have := LT3.out; omega)).trans Cc0_3_3.out)
  have LT4 : Hid (w.heap.size + 1 ≤ w4.heap.size) := Lib.hid (by have := LT3.out; have := SZ4.out; omega)
  have Hi0 : Hid ((Try.prog.info? 54).map (·.size) = some (#[.bool n0_0, .slice XA0_1 xs0_1.length xs0_1.length, .slice XA0_2 xs0_2.length xs0_2.length, .slice XA0_3 xs0_3.length xs0_3.length] : Array Value).size) := Lib.hid (by kernel_rfl)
  have H10 : Hid ((#[.bool n0_0, .slice XA0_1 xs0_1.length xs0_1.length, .slice XA0_2 xs0_2.length xs0_2.length, .slice XA0_3 xs0_3.length xs0_3.length] : Array Value).all (·.oneCell') = true) := Lib.hid (by simp [Value.oneCell'])
  have Gx0 : Hid (Below w4.heap.size w4 (w4.alloc (.cells #[.bool n0_0, .slice XA0_1 xs0_1.length xs0_1.length, .slice XA0_2 xs0_2.length xs0_2.length, .slice XA0_3 xs0_3.length xs0_3.length] 54))) := Lib.hid ((Below.refl _ _).alloc (Nat.le_refl _) _)
  have SZ5 : Hid (w4.heap.size + 1 ≤ (w4.alloc (.cells #[.bool n0_0, .slice XA0_1 xs0_1.length xs0_1.length, .slice XA0_2 xs0_2.length xs0_2.length, .slice XA0_3 xs0_3.length xs0_3.length] 54)).heap.size) := Lib.hid (by simp)
  have HB5 : Hid (Below w.heap.size w (w4.alloc (.cells #[.bool n0_0, .slice XA0_1 xs0_1.length xs0_1.length, .slice XA0_2 xs0_2.length xs0_2.length, .slice XA0_3 xs0_3.length xs0_3.length] 54))) := Lib.hid (HB4.out.trans (Gx0.out.mono HB4.out.size))
  have Cc0_0_5 : Hid ((w4.alloc (.cells #[.bool n0_0, .slice XA0_1 xs0_1.length xs0_1.length, .slice XA0_2 xs0_2.length xs0_2.length, .slice XA0_3 xs0_3.length xs0_3.length] 54)).cell? ⟨w.heap.size, 0, none⟩ = some (.bool n0_0)) := Lib.hid ((Gx0.out.cell (p := ⟨w.heap.size, 0, none⟩) (show w.heap.size < _ from by have := LT4.out; omega)).trans Cc0_0_4.out)
  have Cc0_1_5 : Hid ((w4.alloc (.cells #[.bool n0_0, .slice XA0_1 xs0_1.length xs0_1.length, .slice XA0_2 xs0_2.length xs0_2.length, .slice XA0_3 xs0_3.length xs0_3.length] 54)).cell? ⟨w.heap.size, 1, none⟩ = some (.slice A0_1 xs0_1.length c0_1)) := Lib.hid ((Gx0.out.cell (p := ⟨w.heap.size, 1, none⟩) (show w.heap.size < _ from by have := LT4.out; omega)).trans Cc0_1_4.out)
  have Cc0_2_5 : Hid ((w4.alloc (.cells #[.bool n0_0, .slice XA0_1 xs0_1.length xs0_1.length, .slice XA0_2 xs0_2.length xs0_2.length, .slice XA0_3 xs0_3.length xs0_3.length] 54)).cell? ⟨w.heap.size, 2, none⟩ = some (.slice A0_2 xs0_2.length c0_2)) := Lib.hid ((Gx0.out.cell (p := ⟨w.heap.size, 2, none⟩) (show w.heap.size < _ from by have := LT4.out; omega)).trans Cc0_2_4.out)
  have Cc0_3_5 : Hid ((w4.alloc (.cells #[.bool n0_0, .slice XA0_1 xs0_1.length xs0_1.length, .slice XA0_2 xs0_2.length xs0_2.length, .slice XA0_3 xs0_3.length xs0_3.length] 54)).cell? ⟨w.heap.size, 3, none⟩ = some (.slice A0_3 xs0_3.length c0_3)) := Lib.hid ((Gx0.out.cell (p := ⟨w.heap.size, 3, none⟩) (show w.heap.size < _ from by have := LT4.out; omega)).trans Cc0_3_4.out)
  have X0_1_5 : Hid (RiC (w4.alloc (.cells #[.bool n0_0, .slice XA0_1 xs0_1.length xs0_1.length, .slice XA0_2 xs0_2.length xs0_2.length, .slice XA0_3 xs0_3.length xs0_3.length] 54)).heap.size (w4.alloc (.cells #[.bool n0_0, .slice XA0_1 xs0_1.length xs0_1.length, .slice XA0_2 xs0_2.length xs0_2.length, .slice XA0_3 xs0_3.length xs0_3.length] 54)) (.slice XA0_1 xs0_1.length xs0_1.length) xs0_1) := Lib.hid (X0_1_4.out.at (Nat.le_refl _) Gx0.out)
  have X0_2_5 : Hid (Ri (w4.alloc (.cells #[.bool n0_0, .slice XA0_1 xs0_1.length xs0_1.length, .slice XA0_2 xs0_2.length xs0_2.length, .slice XA0_3 xs0_3.length xs0_3.length] 54)).heap.size (w4.alloc (.cells #[.bool n0_0, .slice XA0_1 xs0_1.length xs0_1.length, .slice XA0_2 xs0_2.length xs0_2.length, .slice XA0_3 xs0_3.length xs0_3.length] 54)) (.slice XA0_2 xs0_2.length xs0_2.length) xs0_2) := Lib.hid (X0_2_4.out.at (Nat.le_refl _) Gx0.out)
  have X0_3_5 : Hid (Ri (w4.alloc (.cells #[.bool n0_0, .slice XA0_1 xs0_1.length xs0_1.length, .slice XA0_2 xs0_2.length xs0_2.length, .slice XA0_3 xs0_3.length xs0_3.length] 54)).heap.size (w4.alloc (.cells #[.bool n0_0, .slice XA0_1 xs0_1.length xs0_1.length, .slice XA0_2 xs0_2.length xs0_2.length, .slice XA0_3 xs0_3.length xs0_3.length] 54)) (.slice XA0_3 xs0_3.length xs0_3.length) xs0_3) := Lib.hid (X0_3_4.out.at (Nat.le_refl _) Gx0.out)
  have LT5 : Hid (w.heap.size + 1 ≤ (w4.alloc (.cells #[.bool n0_0, .slice XA0_1 xs0_1.length xs0_1.length, .slice XA0_2 xs0_2.length xs0_2.length, .slice XA0_3 xs0_3.length xs0_3.length] 54)).heap.size ∧ w4.heap.size < (w4.alloc (.cells #[.bool n0_0, .slice XA0_1 xs0_1.length xs0_1.length, .slice XA0_2 xs0_2.length xs0_2.length, .slice XA0_3 xs0_3.length xs0_3.length] 54)).heap.size) := Lib.hid (by have := LT4.out; have := SZ5.out; omega)
  have CX0_0_5 : Hid ((w4.alloc (.cells #[.bool n0_0, .slice XA0_1 xs0_1.length xs0_1.length, .slice XA0_2 xs0_2.length xs0_2.length, .slice XA0_3 xs0_3.length xs0_3.length] 54)).cell? ⟨w4.heap.size, 0, none⟩ = some (.bool n0_0)) := Lib.hid (by rw [cell_of_row _ _ _ _ _ _ (heap_alloc_new w4 _)]; rfl)
  have CX0_1_5 : Hid ((w4.alloc (.cells #[.bool n0_0, .slice XA0_1 xs0_1.length xs0_1.length, .slice XA0_2 xs0_2.length xs0_2.length, .slice XA0_3 xs0_3.length xs0_3.length] 54)).cell? ⟨w4.heap.size, 1, none⟩ = some (.slice XA0_1 xs0_1.length xs0_1.length)) := Lib.hid (by rw [cell_of_row _ _ _ _ _ _ (heap_alloc_new w4 _)]; rfl)
  have CX0_2_5 : Hid ((w4.alloc (.cells #[.bool n0_0, .slice XA0_1 xs0_1.length xs0_1.length, .slice XA0_2 xs0_2.length xs0_2.length, .slice XA0_3 xs0_3.length xs0_3.length] 54)).cell? ⟨w4.heap.size, 2, none⟩ = some (.slice XA0_2 xs0_2.length xs0_2.length)) := Lib.hid (by rw [cell_of_row _ _ _ _ _ _ (heap_alloc_new w4 _)]; rfl)
  have CX0_3_5 : Hid ((w4.alloc (.cells #[.bool n0_0, .slice XA0_1 xs0_1.length xs0_1.length, .slice XA0_2 xs0_2.length xs0_2.length, .slice XA0_3 xs0_3.length xs0_3.length] 54)).cell? ⟨w4.heap.size, 3, none⟩ = some (.slice XA0_3 xs0_3.length xs0_3.length)) := Lib.hid (by rw [cell_of_row _ _ _ _ _ _ (heap_alloc_new w4 _)]; rfl)
  have qCc0_0_ := Cc0_0_5.out
  have qCc0_1_ := Cc0_1_5.out
  have qCc0_2_ := Cc0_2_5.out
  have qCc0_3_ := Cc0_3_5.out
  have qCX0_0_ := CX0_0_5.out
  have qCX0_1_ := CX0_1_5.out
  have qCX0_2_ := CX0_2_5.out
  have qCX0_3_ := CX0_3_5.out
  go_wp2_with (refine wpList_store_last rfl 54 (.tmp 5) (.tmp 16) rfl #[.bool n0_0, .slice XA0_1 xs0_1.length xs0_1.length, .slice XA0_2 xs0_2.length xs0_2.length, .slice XA0_3 xs0_3.length xs0_3.length] _ 54 rfl rfl Hi0.out rfl H10.out ?_)
  clear qCc0_0_ qCc0_1_ qCc0_2_ qCc0_3_ qCX0_0_ qCX0_1_ qCX0_2_ qCX0_3_
  generalize (w4.alloc (.cells #[.bool n0_0, .slice XA0_1 xs0_1.length xs0_1.length, .slice XA0_2 xs0_2.length xs0_2.length, .slice XA0_3 xs0_3.length xs0_3.length] 54)) = w5 at *
  refine (implEncodeNode_any X0_1_5.out X0_2_5.out X0_3_5.out (Nat.le_refl _) SM0.out.1.1).mono ?_
  rintro e w6 ⟨rfl, g⟩
  have G6 := Lib.hid g; have SZ6 := Lib.hid g.size; clear g
  have HB6 : Hid (Below w.heap.size w w6) := Lib.hid (HB5.out.trans (G6.out.mono HB5.out.size))
  have Cc0_0_6 : Hid (w6.cell? ⟨w.heap.size, 0, none⟩ = some (.bool n0_0)) := Lib.hid ((G6.out.cell (p := ⟨w.heap.size, 0, none⟩) (show w.heap.size < _ from by have := LT5.out; omega)).trans Cc0_0_5.out)
  have Cc0_1_6 : Hid (w6.cell? ⟨w.heap.size, 1, none⟩ = some (.slice A0_1 xs0_1.length c0_1)) := Lib.hid ((G6.out.cell (p := ⟨w.heap.size, 1, none⟩) (show w.heap.size < _ from by have := LT5.out; omega)).trans Cc0_1_5.out)
  have Cc0_2_6 : Hid (w6.cell? ⟨w.heap.size, 2, none⟩ = some (.slice A0_2 xs0_2.length c0_2)) := Lib.hid ((G6.out.cell (p := ⟨w.heap.size, 2, none⟩) (show w.heap.size < _ from by have := LT5.out; omega)).trans Cc0_2_5.out)
  have Cc0_3_6 : Hid (w6.cell? ⟨w.heap.size, 3, none⟩ = some (.slice A0_3 xs0_3.length c0_3)) := Lib.hid ((G6.out.cell (p := ⟨w.heap.size, 3, none⟩) (show w.heap.size < _ from by have := LT5.out; omega)).trans Cc0_3_5.out)
  have CX0_0_6 : Hid (w6.cell? ⟨w4.heap.size, 0, none⟩ = some (.bool n0_0)) := Lib.hid ((G6.out.cell (p := ⟨w4.heap.size, 0, none⟩) (show w4.heap.size < _ from by have := LT5.out; omega)).trans CX0_0_5.out)
  have CX0_1_6 : Hid (w6.cell? ⟨w4.heap.size, 1, none⟩ = some (.slice XA0_1 xs0_1.length xs0_1.length)) := Lib.hid ((G6.out.cell (p := ⟨w4.heap.size, 1, none⟩) (show w4.heap.size < _ from by have := LT5.out; omega)).trans CX0_1_5.out)
  have CX0_2_6 : Hid (w6.cell? ⟨w4.heap.size, 2, none⟩ = some (.slice XA0_2 xs0_2.length xs0_2.length)) := Lib.hid ((G6.out.cell (p := ⟨w4.heap.size, 2, none⟩) (show w4.heap.size < _ from by have := LT5.out; omega)).trans CX0_2_5.out)
  have CX0_3_6 : Hid (w6.cell? ⟨w4.heap.size, 3, none⟩ = some (.slice XA0_3 xs0_3.length xs0_3.length)) := Lib.hid ((G6.out.cell (p := ⟨w4.heap.size, 3, none⟩) (show w4.heap.size < _ from by have := LT5.out; omega)).trans CX0_3_5.out)
  have X0_1_6 : Hid (RiC w6.heap.size w6 (.slice XA0_1 xs0_1.length xs0_1.length) xs0_1) := Lib.hid (X0_1_5.out.at (Nat.le_refl _) G6.out)
  have X0_2_6 : Hid (Ri w6.heap.size w6 (.slice XA0_2 xs0_2.length xs0_2.length) xs0_2) := Lib.hid (X0_2_5.out.at (Nat.le_refl _) G6.out)
  have X0_3_6 : Hid (Ri w6.heap.size w6 (.slice XA0_3 xs0_3.length xs0_3.length) xs0_3) := Lib.hid (X0_3_5.out.at (Nat.le_refl _) G6.out)
  have LT6 : Hid (w.heap.size + 1 ≤ w6.heap.size ∧ w4.heap.size < w6.heap.size) := Lib.hid (by have := LT5.out; have := SZ6.out; omega)
  have HSe0 : Hid (∀ W, Below w6.heap.size w6 W → W.cell? ⟨w.heap.size, 0, none⟩ = some (.bool n0_0) ∧ W.cell? ⟨w.heap.size, 1, none⟩ = some (.slice A0_1 xs0_1.length c0_1) ∧ W.cell? ⟨w.heap.size, 2, none⟩ = some (.slice A0_2 xs0_2.length c0_2) ∧ W.cell? ⟨w.heap.size, 3, none⟩ = some (.slice A0_3 xs0_3.length c0_3) ∧ W.cell? ⟨w4.heap.size, 0, none⟩ = some (.bool n0_0) ∧ W.cell? ⟨w4.heap.size, 1, none⟩ = some (.slice XA0_1 xs0_1.length xs0_1.length) ∧ W.cell? ⟨w4.heap.size, 2, none⟩ = some (.slice XA0_2 xs0_2.length xs0_2.length) ∧ W.cell? ⟨w4.heap.size, 3, none⟩ = some (.slice XA0_3 xs0_3.length xs0_3.length)) := Lib.hid (fun W hW => ⟨(hW.cell (p := ⟨w.heap.size, 0, none⟩) (show w.heap.size < _ from by have := LT6.out; omega)).trans Cc0_0_6.out, (hW.cell (p := ⟨w.heap.size, 1, none⟩) (show w.heap.size < _ from by have := LT6.out; omega)).trans Cc0_1_6.out, (hW.cell (p := ⟨w.heap.size, 2, none⟩) (show w.heap.size < _ from by have := LT6.out; omega)).trans Cc0_2_6.out, (hW.cell (p := ⟨w.heap.size, 3, none⟩) (show w.heap.size < _ from by have := LT6.out; omega)).trans Cc0_3_6.out, (hW.cell (p := ⟨w4.heap.size, 0, none⟩) (show w4.heap.size < _ from by have := LT6.out; omega)).trans CX0_0_6.out, (hW.cell (p := ⟨w4.heap.size, 1, none⟩) (show w4.heap.size < _ from by have := LT6.out; omega)).trans CX0_1_6.out, (hW.cell (p := ⟨w4.heap.size, 2, none⟩) (show w4.heap.size < _ from by have := LT6.out; omega)).trans CX0_2_6.out, (hW.cell (p := ⟨w4.heap.size, 3, none⟩) (show w4.heap.size < _ from by have := LT6.out; omega)).trans CX0_3_6.out⟩)
  have HBd : Hid (Below w.heap.size w w6.drew) := Lib.hid HB6.out.drew
  have qCc0_0_ := Cc0_0_6.out
  have qCc0_1_ := Cc0_1_6.out
  have qCc0_2_ := Cc0_2_6.out
  have qCc0_3_ := Cc0_3_6.out
  have qCX0_0_ := CX0_0_6.out
  have qCX0_1_ := CX0_1_6.out
  have qCX0_2_ := CX0_2_6.out
  have qCX0_3_ := CX0_3_6.out
  go_wp2
  clear qCc0_0_ qCc0_1_ qCc0_2_ qCc0_3_ qCX0_0_ qCX0_1_ qCX0_2_ qCX0_3_
  go_region_held3 (fun W => W.cell? ⟨w.heap.size, 0, none⟩ = some (.bool n0_0) ∧ W.cell? ⟨w.heap.size, 1, none⟩ = some (.slice A0_1 xs0_1.length c0_1) ∧ W.cell? ⟨w.heap.size, 2, none⟩ = some (.slice A0_2 xs0_2.length c0_2) ∧ W.cell? ⟨w.heap.size, 3, none⟩ = some (.slice A0_3 xs0_3.length c0_3) ∧ W.cell? ⟨w4.heap.size, 0, none⟩ = some (.bool n0_0) ∧ W.cell? ⟨w4.heap.size, 1, none⟩ = some (.slice XA0_1 xs0_1.length xs0_1.length) ∧ W.cell? ⟨w4.heap.size, 2, none⟩ = some (.slice XA0_2 xs0_2.length xs0_2.length) ∧ W.cell? ⟨w4.heap.size, 3, none⟩ = some (.slice XA0_3 xs0_3.length xs0_3.length)) (exact HSe0.out _ (by first | exact kbe01 | exact kbe00 | exact (Below.refl _ _).drew))
    ((first | (go_at_call 37; go_fit (toNode_rd (H0_1.out.at (Nat.le_refl _) (HB6.out.trans (((Below.refl _ _).drew).mono HB6.out.size))) (H0_2.out.at (Nat.le_refl _) (HB6.out.trans (((Below.refl _ _).drew).mono HB6.out.size))) (H0_3.out.at (Nat.le_refl _) (HB6.out.trans (((Below.refl _ _).drew).mono HB6.out.size))) (Nat.le_refl _) SM0.out); rintro e ue00 ⟨EA0_1, EA0_2, EA0_3, rfl, r0_1, r0_2, r0_3, ge00⟩; have E0_1d := Lib.hid r0_1; clear r0_1; have E0_2d := Lib.hid r0_2; clear r0_2; have E0_3d := Lib.hid r0_3; clear r0_3; have kbe00 : Below w6.heap.size w6 ue00 := ((Below.refl _ _).drew.trans ge00)) | (go_at_call 39; go_fit (eqNode_any (X0_1_6.out.at (Nat.le_refl _) (kbe00)) (X0_2_6.out.at (Nat.le_refl _) (kbe00)) (X0_3_6.out.at (Nat.le_refl _) (kbe00)) E0_1d.out E0_2d.out E0_3d.out (Nat.le_refl _)); rintro e w7 ⟨rfl, ge01⟩; have kbe01 : Below w6.heap.size w6 w7 := (kbe00.trans (ge01.mono kbe00.size)))))
  try simp only [Exit.then]
  have SZ7 := Lib.hid kbe01.size; have G7 := Lib.hid kbe01
  have HB7 : Hid (Below w.heap.size w w7) := Lib.hid (HB6.out.trans (G7.out.mono HB6.out.size))
  have Cc0_0_7 : Hid (w7.cell? ⟨w.heap.size, 0, none⟩ = some (.bool n0_0)) := Lib.hid ((G7.out.cell (p := ⟨w.heap.size, 0, none⟩) (show w.heap.size < _ from by have := LT6.out; omega)).trans Cc0_0_6.out)
  have Cc0_1_7 : Hid (w7.cell? ⟨w.heap.size, 1, none⟩ = some (.slice A0_1 xs0_1.length c0_1)) := Lib.hid ((G7.out.cell (p := ⟨w.heap.size, 1, none⟩) (show w.heap.size < _ from by have := LT6.out; omega)).trans Cc0_1_6.out)
  have Cc0_2_7 : Hid (w7.cell? ⟨w.heap.size, 2, none⟩ = some (.slice A0_2 xs0_2.length c0_2)) := Lib.hid ((G7.out.cell (p := ⟨w.heap.size, 2, none⟩) (show w.heap.size < _ from by have := LT6.out; omega)).trans Cc0_2_6.out)
  have Cc0_3_7 : Hid (w7.cell? ⟨w.heap.size, 3, none⟩ = some (.slice A0_3 xs0_3.length c0_3)) := Lib.hid ((G7.out.cell (p := ⟨w.heap.size, 3, none⟩) (show w.heap.size < _ from by have := LT6.out; omega)).trans Cc0_3_6.out)
  have CX0_0_7 : Hid (w7.cell? ⟨w4.heap.size, 0, none⟩ = some (.bool n0_0)) := Lib.hid ((G7.out.cell (p := ⟨w4.heap.size, 0, none⟩) (show w4.heap.size < _ from by have := LT6.out; omega)).trans CX0_0_6.out)
  have CX0_1_7 : Hid (w7.cell? ⟨w4.heap.size, 1, none⟩ = some (.slice XA0_1 xs0_1.length xs0_1.length)) := Lib.hid ((G7.out.cell (p := ⟨w4.heap.size, 1, none⟩) (show w4.heap.size < _ from by have := LT6.out; omega)).trans CX0_1_6.out)
  have CX0_2_7 : Hid (w7.cell? ⟨w4.heap.size, 2, none⟩ = some (.slice XA0_2 xs0_2.length xs0_2.length)) := Lib.hid ((G7.out.cell (p := ⟨w4.heap.size, 2, none⟩) (show w4.heap.size < _ from by have := LT6.out; omega)).trans CX0_2_6.out)
  have CX0_3_7 : Hid (w7.cell? ⟨w4.heap.size, 3, none⟩ = some (.slice XA0_3 xs0_3.length xs0_3.length)) := Lib.hid ((G7.out.cell (p := ⟨w4.heap.size, 3, none⟩) (show w4.heap.size < _ from by have := LT6.out; omega)).trans CX0_3_6.out)
  have X0_1_7 : Hid (RiC w7.heap.size w7 (.slice XA0_1 xs0_1.length xs0_1.length) xs0_1) := Lib.hid (X0_1_6.out.at (Nat.le_refl _) G7.out)
  have X0_2_7 : Hid (Ri w7.heap.size w7 (.slice XA0_2 xs0_2.length xs0_2.length) xs0_2) := Lib.hid (X0_2_6.out.at (Nat.le_refl _) G7.out)
  have X0_3_7 : Hid (Ri w7.heap.size w7 (.slice XA0_3 xs0_3.length xs0_3.length) xs0_3) := Lib.hid (X0_3_6.out.at (Nat.le_refl _) G7.out)
  have LT7 : Hid (w.heap.size + 1 ≤ w7.heap.size ∧ w4.heap.size < w7.heap.size) := Lib.hid (by have := LT6.out; have := SZ7.out; omega)
  have qCc0_0_ := Cc0_0_7.out
  have qCc0_1_ := Cc0_1_7.out
  have qCc0_2_ := Cc0_2_7.out
  have qCc0_3_ := Cc0_3_7.out
  have qCX0_0_ := CX0_0_7.out
  have qCX0_1_ := CX0_1_7.out
  have qCX0_2_ := CX0_2_7.out
  have qCX0_3_ := CX0_3_7.out
  go_wp2_with fail
  clear qCc0_0_ qCc0_1_ qCc0_2_ qCc0_3_ qCX0_0_ qCX0_1_ qCX0_2_ qCX0_3_
  go_ret
  exact ⟨rfl, HB7.out⟩
theorem own : ownKnob Try.prog.godebug = none := by kernel_rfl
theorem laidOut : laidOutB Try.prog = true := by kernel_rfl
set_option maxRecDepth 100000 in
theorem lifted (os : Os) (started : os.Started) (H : Type) (enc : TypeId × Value → H) :
    ReturnsInHanded {} Try.checked os 12 .any (Rows.fnExactEncodeNodeSpec.pre6 enc Try.prog Try.f12 Rows.fnExactEncodeNodeRow.domain false) (Rows.fnExactEncodeNodeSpec.post enc Try.prog Try.f12 false true false false) := by
  refine returnsInHanded_of_change (C := Try.checked) own started (by kernel_rfl) Try.func12
    (ChangeSpec.witness6 (enc := enc) (C := Try.checked) false ⟨#[], #[.agg #[.bool false, .slice none 0 0, .slice none 0 0, .slice none 0 0]], []⟩ 8 (by kernel_rfl) (by kernel_rfl) (by kernel_rfl) (by kernel_rfl)) ?_
  intro W base args ds gs before hval0 hW hcnd _
  have hval : ∀ (j : Nat) t v, Try.f12.params[j]? = some t → args[j]? = some v → Value.okWide Try.prog W .any base t v := hval0
  have hW' := hW
  obtain ⟨p, q, hA0, hV, rfl, hfz, hnd⟩ := hW
  have hA : DataW.TrodAll enc Try.prog W 0 (fun _ => true) true Try.f12.params.toList args.toList ds p := hA0
  rw [Try.params12] at hA hval
  obtain ⟨v0, vs0, d0, ds0, p0, q0, hargs, rfl, rfl, h0, r0⟩ := trodAll_cons hA
  obtain ⟨rfl, rfl, rfl⟩ := trodAll_nil r0
  obtain rfl : args = #[v0] := by cases args; simp_all
  obtain ⟨rfl, rfl⟩ := trodVars_none hV
  have k0 := h0
  have lt0 : ∀ x ∈ p0, x.block < W.heap.size := by obtain ⟨m, hm⟩ := k0; exact DataW.trod_lt m _ _ _ hm
  obtain ⟨n0_0, v0_1, xs0_1, v0_2, xs0_2, v0_3, xs0_3, rfl, g0_1, g0_2, g0_3⟩ := open_node (hval 0 49 v0 rfl rfl) h0
  clear hA0 hval0
  refine (walk W _ _ _ _ _ _ _ g0_1 g0_2 g0_3).mono fun e W' ⟨he, bel⟩ => ?_
  subst he
  exact ⟨_, rfl, _, _, _, [], _, [], hW', (trodAll_cons_mk (shut_bool Try.underlying4 _) trodAll_mk0), (trodAll_cons_mk (Below.trod laidOut (by kernel_rfl) (of_decide_eq_true (by kernel_rfl)) k0 bel lt0) trodAll_mk0), rfl, bel.frame _, fun h => by cases h⟩
theorem closed : joinedFacts Try.pinned.checked.prog 12 Try.f12 Rows.fnExactEncodeNodeSpec Rows.fnExactEncodeNodeRow = true := by
  unfold joinedFacts
  rw [mayE, lifF, mkP]
  kernel_rfl
theorem over : Rows.fnExactEncodeNodeRow.holds Try.pinned (OpenSpec.ofChange Rows.fnExactEncodeNodeSpec) :=
  OpenClaim.holds_of_wide 12 Try.f12 rfl rfl rfl rfl rfl rfl rfl ⟨rfl, rfl, rfl, rfl, rfl⟩ rfl rfl rfl rfl rfl (by kernel_rfl) Try.func12 closed
    (of_decide_eq_true (by kernel_rfl)) (by unfold Func.isWrapper; rw [if_neg (of_decide_eq_false (by kernel_rfl))]; exact ⟨rfl, rfl⟩)
    (fun os started H enc _ => lifted os started H enc)
theorem proved : Rows.FnExactEncodeNodeSaid := over
end Go.Proofs.Ytabnglimchjgpaa.fnExactEncodeNode
