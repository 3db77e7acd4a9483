/- The statement of the law FnExactResizeSpace: whatever the input, the program's function answers as the model's, and the input reads as it did. Its conditions are the given statement's own; nothing is added. -/
import Derived.Test.YtmnmjepppghnlaaRszL
import Derived.Test.YtmnmjepppghnlaaFrmI
import Derived.ProofKit
import Derived.OpenShut
import Derived.ShutString
import Derived.ChangeOld
import Derived.Below
import Derived.Deep.DeepFit
import Derived.Deep.WholeRow
import Derived.Deep.RegionHeld3
namespace Go.Proofs.Ytmnmjepppghnlaa.fnExactResizeSpace
open Go.ChangeShapes Go.WideShapes Go.ChangeAt Go.RowKit
open Go.ChangeMaps (open_string shut_string)
set_option linter.unusedVariables false
set_option maxHeartbeats 8000000 in
set_option maxRecDepth 100000 in
theorem walk (w : World) (v0_0 : Value) (xs0_0 : List Int) (v0_1 : Value) (xs0_1 : List Int) (v1 : Value) (xs1 : List Int) (h0_0 : Ri w.heap.size w v0_0 xs0_0) (h0_1 : Ri w.heap.size w v0_1 xs0_1) (h1 : Ri w.heap.size w v1 xs1) :
    Calls Try.prog 11 #[.agg #[v0_0, v0_1], v1] w (GivesB (.bool true) w) := by
  have H0_0 := Lib.hid h0_0; obtain ⟨A0_0, c0_0, rfl, _⟩ := h0_0
  have H0_1 := Lib.hid h0_1; obtain ⟨A0_1, c0_1, rfl, _⟩ := h0_1
  have H1 := Lib.hid h1
  obtain ⟨A1, c1, rfl, _, hc1, _⟩ := h1
  unfold maxLen at hc1
  by_cases big1 : 1048576 < xs1.length
  · have big1' : decide ((1048576 : Int) < (xs1.length : Int)) = true := decide_eq_true (by omega)
    go_enter Try.func11, Try.ntmps11
    go_wp2_with fail
    go_ret
    exact ⟨rfl, (Below.refl _ _).alloc (Nat.le_refl _) _⟩
  have small1 : decide ((1048576 : Int) < (xs1.length : Int)) = false := decide_eq_false (by omega)
  have Sd : Hid (xs1.length ≤ 1048576) := Lib.hid (by omega)
  obtain ⟨D, hD⟩ : ∃ D, rszD xs0_0 xs0_1 xs1 = D := ⟨_, rfl⟩
  obtain ⟨M, hM⟩ : ∃ M, rszM xs0_0 xs0_1 xs1 = M := ⟨_, rfl⟩
  obtain ⟨ec, hE⟩ : ∃ ec, rszE xs0_0 xs0_1 xs1 = ec := ⟨_, rfl⟩
  have HD := Lib.hid hD; have HM := Lib.hid hM; have HE := Lib.hid hE
  have ID : Hid (∀ x ∈ D, InI x) := Lib.hid (rszD_in hD H1.out.inI)
  have IM : Hid (∀ x ∈ M, InI x) := Lib.hid (rszM_in hM H0_1.out.inI)
  have LD : Hid (D.length ≤ 1048576) := Lib.hid (rszD_le hD Sd.out)
  have LM0 : Hid (xs0_1.length ≤ 1048576 → M.length ≤ 1048576) := Lib.hid (rszM_le hM)
  clear hD hM hE
  have HB0 : Hid (Below w.heap.size w (w.alloc (.cells #[.slice A0_0 xs0_0.length c0_0, .slice A0_1 xs0_1.length c0_1] 32))) := Lib.hid ((Below.refl _ _).alloc (Nat.le_refl _) _)
  have SZ0 : Hid (w.heap.size + 1 ≤ (w.alloc (.cells #[.slice A0_0 xs0_0.length c0_0, .slice A0_1 xs0_1.length c0_1] 32)).heap.size) := Lib.hid (by simp)
  have P00_0 : Hid ((w.alloc (.cells #[.slice A0_0 xs0_0.length c0_0, .slice A0_1 xs0_1.length c0_1] 32)).cell? ⟨w.heap.size, 0, none⟩ = some (.slice A0_0 xs0_0.length c0_0)) := Lib.hid (by rw [cell_of_row _ _ _ _ _ _ (heap_alloc_new w _)]; rfl)
  have P01_0 : Hid ((w.alloc (.cells #[.slice A0_0 xs0_0.length c0_0, .slice A0_1 xs0_1.length c0_1] 32)).cell? ⟨w.heap.size, 1, none⟩ = some (.slice A0_1 xs0_1.length c0_1)) := Lib.hid (by rw [cell_of_row _ _ _ _ _ _ (heap_alloc_new w _)]; rfl)
  go_enter Try.func11, Try.ntmps11
  go_wp2_with fail
  generalize (w.alloc (.cells #[.slice A0_0 xs0_0.length c0_0, .slice A0_1 xs0_1.length c0_1] 32)) = w0 at *
  refine (szSpace_any (H0_0.out.at (Nat.le_refl _) HB0.out) (H0_1.out.at (Nat.le_refl _) HB0.out) (Nat.le_refl _) (1048576) (by omega) (by omega)).mono ?_
  rintro e w1 ⟨l0, rfl, hl0, hL0, hp0, g⟩
  have P0 := Lib.hid hp0; have G1 := Lib.hid g; have SZ1 : Hid (w0.heap.size ≤ w1.heap.size) := Lib.hid g.size; clear hp0 g
  have P00_1 : Hid (w1.cell? ⟨w.heap.size, 0, none⟩ = some (.slice A0_0 xs0_0.length c0_0)) := Lib.hid (oldcell G1.out P00_0.out)
  have P01_1 : Hid (w1.cell? ⟨w.heap.size, 1, none⟩ = some (.slice A0_1 xs0_1.length c0_1)) := Lib.hid (oldcell G1.out P01_0.out)
  have HB1 : Hid (Below w.heap.size w w1) := Lib.hid (HB0.out.trans (G1.out.mono HB0.out.size))
  by_cases neg0 : l0 < 0
  · have q0 := P00_1.out; have q1 := P01_1.out
    go_wp2_with fail
    go_ret
    exact ⟨rfl, HB1.out⟩
  have SM0 := Lib.hid (P0.out (by omega))
  have LM := Lib.hid (LM0.out SM0.out.2)
  have qP00 := P00_1.out
  have qP01 := P01_1.out
  go_wp2_with fail
  clear qP00 qP01
  refine (toSpace_oi (H0_0.out.at (Nat.le_refl _) HB1.out) (H0_1.out.at (Nat.le_refl _) HB1.out) (Nat.le_refl _) SM0.out).mono ?_
  rintro e w2 ⟨TA0, TA1, rfl, oa, ob, hap, g⟩
  have G2 := Lib.hid g; have SZ2 : Hid (w1.heap.size ≤ w2.heap.size) := Lib.hid g.size; clear g
  have P00_2 : Hid (w2.cell? ⟨w.heap.size, 0, none⟩ = some (.slice A0_0 xs0_0.length c0_0)) := Lib.hid (oldcell G2.out P00_1.out)
  have P01_2 : Hid (w2.cell? ⟨w.heap.size, 1, none⟩ = some (.slice A0_1 xs0_1.length c0_1)) := Lib.hid (oldcell G2.out P01_1.out)
  have HB2 : Hid (Below w.heap.size w w2) := Lib.hid (HB1.out.trans (G2.out.mono HB1.out.size))
  have OT0_2 : Hid (OI w2 w1.heap.size (.slice TA0 xs0_0.length xs0_0.length) xs0_0) := Lib.hid oa; clear oa
  have OT1_2 : Hid (OI w2 w1.heap.size (.slice TA1 xs0_1.length xs0_1.length) xs0_1) := Lib.hid ob; clear ob
  have XT := Lib.hid hap; clear hap
  have IT0 := Lib.hid OT0_2.out.wi; have IT1 := Lib.hid OT1_2.out.wi
  have qP00 := P00_2.out
  have qP01 := P01_2.out
  go_wp2_with fail
  clear qP00 qP01
  refine (toI_oi (H1.out.at (Nat.le_refl _) HB2.out) (Nat.le_refl _) Sd.out).mono ?_
  rintro e w3 ⟨UA, rfl, oa, g⟩
  have G3 := Lib.hid g; have SZ3 : Hid (w2.heap.size ≤ w3.heap.size) := Lib.hid g.size; clear g
  have P00_3 : Hid (w3.cell? ⟨w.heap.size, 0, none⟩ = some (.slice A0_0 xs0_0.length c0_0)) := Lib.hid (oldcell G3.out P00_2.out)
  have P01_3 : Hid (w3.cell? ⟨w.heap.size, 1, none⟩ = some (.slice A0_1 xs0_1.length c0_1)) := Lib.hid (oldcell G3.out P01_2.out)
  have OT0_3 : Hid (OI w3 w1.heap.size (.slice TA0 xs0_0.length xs0_0.length) xs0_0) := Lib.hid (OT0_2.out.bel G3.out)
  have OT1_3 : Hid (OI w3 w1.heap.size (.slice TA1 xs0_1.length xs0_1.length) xs0_1) := Lib.hid (OT1_2.out.bel G3.out)
  have HB3 : Hid (Below w.heap.size w w3) := Lib.hid (HB2.out.trans (G3.out.mono HB2.out.size))
  have OU_3 : Hid (OI w3 w2.heap.size (.slice UA xs1.length xs1.length) xs1) := Lib.hid oa; clear oa
  have IU := Lib.hid OU_3.out.wi
  have qP00 := P00_3.out
  have qP01 := P01_3.out
  go_wp2_with fail
  clear qP00 qP01
  refine (sResize_is HD.out HM.out HE.out (OT0_3.out.ri H0_0.out.inI) (OT1_3.out.ri H0_1.out.inI) (OU_3.out.ri H1.out.inI) (Nat.le_refl _) SM0.out.2 Sd.out).mono ?_
  rintro e w4 ⟨ZA0, ZA1, Zc0, Zc1, rfl, oa, ob, hap, g⟩
  have G4 := Lib.hid g; have SZ4 : Hid (w3.heap.size ≤ w4.heap.size) := Lib.hid g.size; clear g
  have P00_4 : Hid (w4.cell? ⟨w.heap.size, 0, none⟩ = some (.slice A0_0 xs0_0.length c0_0)) := Lib.hid (oldcell G4.out P00_3.out)
  have P01_4 : Hid (w4.cell? ⟨w.heap.size, 1, none⟩ = some (.slice A0_1 xs0_1.length c0_1)) := Lib.hid (oldcell G4.out P01_3.out)
  have OT0_4 : Hid (OI w4 w1.heap.size (.slice TA0 xs0_0.length xs0_0.length) xs0_0) := Lib.hid (OT0_3.out.bel G4.out)
  have OT1_4 : Hid (OI w4 w1.heap.size (.slice TA1 xs0_1.length xs0_1.length) xs0_1) := Lib.hid (OT1_3.out.bel G4.out)
  have OU_4 : Hid (OI w4 w2.heap.size (.slice UA xs1.length xs1.length) xs1) := Lib.hid (OU_3.out.bel G4.out)
  have HB4 : Hid (Below w.heap.size w w4) := Lib.hid (HB3.out.trans (G4.out.mono HB3.out.size))
  have OZ0_4 : Hid (OI w4 w3.heap.size (.slice ZA0 D.length Zc0) D) := Lib.hid oa; clear oa
  have OZ1_4 : Hid (OI w4 w3.heap.size (.slice ZA1 M.length Zc1) M) := Lib.hid ob; clear ob
  have XZ := Lib.hid hap; clear hap
  have IZ0 := Lib.hid OZ0_4.out.wi; have IZ1 := Lib.hid OZ1_4.out.wi
  have G5 : Hid (Below w4.heap.size w4 (w4.alloc (.cells #[.slice ZA0 D.length Zc0, .slice ZA1 M.length Zc1] 35))) := Lib.hid ((Below.refl _ _).alloc (Nat.le_refl _) _)
  have SZ5 : Hid (w4.heap.size + 1 ≤ (w4.alloc (.cells #[.slice ZA0 D.length Zc0, .slice ZA1 M.length Zc1] 35)).heap.size) := Lib.hid (by simp)
  have P00_5 : Hid ((w4.alloc (.cells #[.slice ZA0 D.length Zc0, .slice ZA1 M.length Zc1] 35)).cell? ⟨w.heap.size, 0, none⟩ = some (.slice A0_0 xs0_0.length c0_0)) := Lib.hid (oldcell G5.out P00_4.out)
  have P01_5 : Hid ((w4.alloc (.cells #[.slice ZA0 D.length Zc0, .slice ZA1 M.length Zc1] 35)).cell? ⟨w.heap.size, 1, none⟩ = some (.slice A0_1 xs0_1.length c0_1)) := Lib.hid (oldcell G5.out P01_4.out)
  have OZ0_5 : Hid (OI (w4.alloc (.cells #[.slice ZA0 D.length Zc0, .slice ZA1 M.length Zc1] 35)) w3.heap.size (.slice ZA0 D.length Zc0) D) := Lib.hid (OZ0_4.out.bel G5.out)
  have OZ1_5 : Hid (OI (w4.alloc (.cells #[.slice ZA0 D.length Zc0, .slice ZA1 M.length Zc1] 35)) w3.heap.size (.slice ZA1 M.length Zc1) M) := Lib.hid (OZ1_4.out.bel G5.out)
  have HB5 : Hid (Below w.heap.size w (w4.alloc (.cells #[.slice ZA0 D.length Zc0, .slice ZA1 M.length Zc1] 35))) := Lib.hid (HB4.out.trans (G5.out.mono HB4.out.size))
  have Q0_5 : Hid ((w4.alloc (.cells #[.slice ZA0 D.length Zc0, .slice ZA1 M.length Zc1] 35)).cell? ⟨w4.heap.size, 0, none⟩ = some (.slice ZA0 D.length Zc0)) := Lib.hid (by rw [cell_of_row _ _ _ _ _ _ (heap_alloc_new w4 _)]; rfl)
  have Q1_5 : Hid ((w4.alloc (.cells #[.slice ZA0 D.length Zc0, .slice ZA1 M.length Zc1] 35)).cell? ⟨w4.heap.size, 1, none⟩ = some (.slice ZA1 M.length Zc1)) := Lib.hid (by rw [cell_of_row _ _ _ _ _ _ (heap_alloc_new w4 _)]; rfl)
  have qP00 := P00_5.out
  have qP01 := P01_5.out
  have qQ0 := Q0_5.out
  have qQ1 := Q1_5.out
  go_wp2_with fail
  clear qP00 qP01 qQ0 qQ1
  generalize (w4.alloc (.cells #[.slice ZA0 D.length Zc0, .slice ZA1 M.length Zc1] 35)) = w5 at *
  refine (toSpace_oi (H0_0.out.at (Nat.le_refl _) HB5.out) (H0_1.out.at (Nat.le_refl _) HB5.out) (Nat.le_refl _) SM0.out).mono ?_
  rintro e w6 ⟨BA0, BA1, rfl, oa, ob, hap, g⟩
  have G6 := Lib.hid g; have SZ6 : Hid (w5.heap.size ≤ w6.heap.size) := Lib.hid g.size; clear g
  have P00_6 : Hid (w6.cell? ⟨w.heap.size, 0, none⟩ = some (.slice A0_0 xs0_0.length c0_0)) := Lib.hid (oldcell G6.out P00_5.out)
  have P01_6 : Hid (w6.cell? ⟨w.heap.size, 1, none⟩ = some (.slice A0_1 xs0_1.length c0_1)) := Lib.hid (oldcell G6.out P01_5.out)
  have OZ0_6 : Hid (OI w6 w3.heap.size (.slice ZA0 D.length Zc0) D) := Lib.hid (OZ0_5.out.bel G6.out)
  have OZ1_6 : Hid (OI w6 w3.heap.size (.slice ZA1 M.length Zc1) M) := Lib.hid (OZ1_5.out.bel G6.out)
  have Q0_6 : Hid (w6.cell? ⟨w4.heap.size, 0, none⟩ = some (.slice ZA0 D.length Zc0)) := Lib.hid (oldcell G6.out Q0_5.out)
  have Q1_6 : Hid (w6.cell? ⟨w4.heap.size, 1, none⟩ = some (.slice ZA1 M.length Zc1)) := Lib.hid (oldcell G6.out Q1_5.out)
  have HB6 : Hid (Below w.heap.size w w6) := Lib.hid (HB5.out.trans (G6.out.mono HB5.out.size))
  have OB0_6 : Hid (OI w6 w5.heap.size (.slice BA0 xs0_0.length xs0_0.length) xs0_0) := Lib.hid oa; clear oa
  have OB1_6 : Hid (OI w6 w5.heap.size (.slice BA1 xs0_1.length xs0_1.length) xs0_1) := Lib.hid ob; clear ob
  have XB := Lib.hid hap; clear hap
  have IB0 := Lib.hid OB0_6.out.wi; have IB1 := Lib.hid OB1_6.out.wi
  have G7 : Hid (Below w6.heap.size w6 (w6.alloc (.cells #[.slice BA0 xs0_0.length xs0_0.length, .slice BA1 xs0_1.length xs0_1.length] 35))) := Lib.hid ((Below.refl _ _).alloc (Nat.le_refl _) _)
  have SZ7 : Hid (w6.heap.size + 1 ≤ (w6.alloc (.cells #[.slice BA0 xs0_0.length xs0_0.length, .slice BA1 xs0_1.length xs0_1.length] 35)).heap.size) := Lib.hid (by simp)
  have P00_7 : Hid ((w6.alloc (.cells #[.slice BA0 xs0_0.length xs0_0.length, .slice BA1 xs0_1.length xs0_1.length] 35)).cell? ⟨w.heap.size, 0, none⟩ = some (.slice A0_0 xs0_0.length c0_0)) := Lib.hid (oldcell G7.out P00_6.out)
  have P01_7 : Hid ((w6.alloc (.cells #[.slice BA0 xs0_0.length xs0_0.length, .slice BA1 xs0_1.length xs0_1.length] 35)).cell? ⟨w.heap.size, 1, none⟩ = some (.slice A0_1 xs0_1.length c0_1)) := Lib.hid (oldcell G7.out P01_6.out)
  have OZ0_7 : Hid (OI (w6.alloc (.cells #[.slice BA0 xs0_0.length xs0_0.length, .slice BA1 xs0_1.length xs0_1.length] 35)) w3.heap.size (.slice ZA0 D.length Zc0) D) := Lib.hid (OZ0_6.out.bel G7.out)
  have OZ1_7 : Hid (OI (w6.alloc (.cells #[.slice BA0 xs0_0.length xs0_0.length, .slice BA1 xs0_1.length xs0_1.length] 35)) w3.heap.size (.slice ZA1 M.length Zc1) M) := Lib.hid (OZ1_6.out.bel G7.out)
  have Q0_7 : Hid ((w6.alloc (.cells #[.slice BA0 xs0_0.length xs0_0.length, .slice BA1 xs0_1.length xs0_1.length] 35)).cell? ⟨w4.heap.size, 0, none⟩ = some (.slice ZA0 D.length Zc0)) := Lib.hid (oldcell G7.out Q0_6.out)
  have Q1_7 : Hid ((w6.alloc (.cells #[.slice BA0 xs0_0.length xs0_0.length, .slice BA1 xs0_1.length xs0_1.length] 35)).cell? ⟨w4.heap.size, 1, none⟩ = some (.slice ZA1 M.length Zc1)) := Lib.hid (oldcell G7.out Q1_6.out)
  have OB0_7 : Hid (OI (w6.alloc (.cells #[.slice BA0 xs0_0.length xs0_0.length, .slice BA1 xs0_1.length xs0_1.length] 35)) w5.heap.size (.slice BA0 xs0_0.length xs0_0.length) xs0_0) := Lib.hid (OB0_6.out.bel G7.out)
  have OB1_7 : Hid (OI (w6.alloc (.cells #[.slice BA0 xs0_0.length xs0_0.length, .slice BA1 xs0_1.length xs0_1.length] 35)) w5.heap.size (.slice BA1 xs0_1.length xs0_1.length) xs0_1) := Lib.hid (OB1_6.out.bel G7.out)
  have HB7 : Hid (Below w.heap.size w (w6.alloc (.cells #[.slice BA0 xs0_0.length xs0_0.length, .slice BA1 xs0_1.length xs0_1.length] 35))) := Lib.hid (HB6.out.trans (G7.out.mono HB6.out.size))
  have R0_7 : Hid ((w6.alloc (.cells #[.slice BA0 xs0_0.length xs0_0.length, .slice BA1 xs0_1.length xs0_1.length] 35)).cell? ⟨w6.heap.size, 0, none⟩ = some (.slice BA0 xs0_0.length xs0_0.length)) := Lib.hid (by rw [cell_of_row _ _ _ _ _ _ (heap_alloc_new w6 _)]; rfl)
  have R1_7 : Hid ((w6.alloc (.cells #[.slice BA0 xs0_0.length xs0_0.length, .slice BA1 xs0_1.length xs0_1.length] 35)).cell? ⟨w6.heap.size, 1, none⟩ = some (.slice BA1 xs0_1.length xs0_1.length)) := Lib.hid (by rw [cell_of_row _ _ _ _ _ _ (heap_alloc_new w6 _)]; rfl)
  have qP00 := P00_7.out
  have qP01 := P01_7.out
  have qQ0 := Q0_7.out
  have qQ1 := Q1_7.out
  have qR0 := R0_7.out
  have qR1 := R1_7.out
  go_wp2_with fail
  clear qP00 qP01 qQ0 qQ1 qR0 qR1
  generalize (w6.alloc (.cells #[.slice BA0 xs0_0.length xs0_0.length, .slice BA1 xs0_1.length xs0_1.length] 35)) = w7 at *
  refine (toI_oi (H1.out.at (Nat.le_refl _) HB7.out) (Nat.le_refl _) Sd.out).mono ?_
  rintro e w8 ⟨VA, rfl, oa, g⟩
  have G8 := Lib.hid g; have SZ8 : Hid (w7.heap.size ≤ w8.heap.size) := Lib.hid g.size; clear g
  have P00_8 : Hid (w8.cell? ⟨w.heap.size, 0, none⟩ = some (.slice A0_0 xs0_0.length c0_0)) := Lib.hid (oldcell G8.out P00_7.out)
  have P01_8 : Hid (w8.cell? ⟨w.heap.size, 1, none⟩ = some (.slice A0_1 xs0_1.length c0_1)) := Lib.hid (oldcell G8.out P01_7.out)
  have OZ0_8 : Hid (OI w8 w3.heap.size (.slice ZA0 D.length Zc0) D) := Lib.hid (OZ0_7.out.bel G8.out)
  have OZ1_8 : Hid (OI w8 w3.heap.size (.slice ZA1 M.length Zc1) M) := Lib.hid (OZ1_7.out.bel G8.out)
  have Q0_8 : Hid (w8.cell? ⟨w4.heap.size, 0, none⟩ = some (.slice ZA0 D.length Zc0)) := Lib.hid (oldcell G8.out Q0_7.out)
  have Q1_8 : Hid (w8.cell? ⟨w4.heap.size, 1, none⟩ = some (.slice ZA1 M.length Zc1)) := Lib.hid (oldcell G8.out Q1_7.out)
  have OB0_8 : Hid (OI w8 w5.heap.size (.slice BA0 xs0_0.length xs0_0.length) xs0_0) := Lib.hid (OB0_7.out.bel G8.out)
  have OB1_8 : Hid (OI w8 w5.heap.size (.slice BA1 xs0_1.length xs0_1.length) xs0_1) := Lib.hid (OB1_7.out.bel G8.out)
  have R0_8 : Hid (w8.cell? ⟨w6.heap.size, 0, none⟩ = some (.slice BA0 xs0_0.length xs0_0.length)) := Lib.hid (oldcell G8.out R0_7.out)
  have R1_8 : Hid (w8.cell? ⟨w6.heap.size, 1, none⟩ = some (.slice BA1 xs0_1.length xs0_1.length)) := Lib.hid (oldcell G8.out R1_7.out)
  have HB8 : Hid (Below w.heap.size w w8) := Lib.hid (HB7.out.trans (G8.out.mono HB7.out.size))
  have OV_8 : Hid (OI w8 w7.heap.size (.slice VA xs1.length xs1.length) xs1) := Lib.hid oa; clear oa
  have IV := Lib.hid OV_8.out.wi
  have qP00 := P00_8.out
  have qP01 := P01_8.out
  have qQ0 := Q0_8.out
  have qQ1 := Q1_8.out
  have qR0 := R0_8.out
  have qR1 := R1_8.out
  go_wp2_with fail
  clear qP00 qP01 qQ0 qQ1 qR0 qR1
  refine (pResize_is HD.out HM.out HE.out (OB0_8.out.ri H0_0.out.inI) (OB1_8.out.ri H0_1.out.inI) (OV_8.out.ri H1.out.inI) (Nat.le_refl _) SM0.out.2 Sd.out).mono ?_
  rintro e w9 ⟨YA0, YA1, Yc0, Yc1, rfl, oa, ob, hap, g⟩
  have G9 := Lib.hid g; have SZ9 : Hid (w8.heap.size ≤ w9.heap.size) := Lib.hid g.size; clear g
  have P00_9 : Hid (w9.cell? ⟨w.heap.size, 0, none⟩ = some (.slice A0_0 xs0_0.length c0_0)) := Lib.hid (oldcell G9.out P00_8.out)
  have P01_9 : Hid (w9.cell? ⟨w.heap.size, 1, none⟩ = some (.slice A0_1 xs0_1.length c0_1)) := Lib.hid (oldcell G9.out P01_8.out)
  have OZ0_9 : Hid (OI w9 w3.heap.size (.slice ZA0 D.length Zc0) D) := Lib.hid (OZ0_8.out.bel G9.out)
  have OZ1_9 : Hid (OI w9 w3.heap.size (.slice ZA1 M.length Zc1) M) := Lib.hid (OZ1_8.out.bel G9.out)
  have Q0_9 : Hid (w9.cell? ⟨w4.heap.size, 0, none⟩ = some (.slice ZA0 D.length Zc0)) := Lib.hid (oldcell G9.out Q0_8.out)
  have Q1_9 : Hid (w9.cell? ⟨w4.heap.size, 1, none⟩ = some (.slice ZA1 M.length Zc1)) := Lib.hid (oldcell G9.out Q1_8.out)
  have OB0_9 : Hid (OI w9 w5.heap.size (.slice BA0 xs0_0.length xs0_0.length) xs0_0) := Lib.hid (OB0_8.out.bel G9.out)
  have OB1_9 : Hid (OI w9 w5.heap.size (.slice BA1 xs0_1.length xs0_1.length) xs0_1) := Lib.hid (OB1_8.out.bel G9.out)
  have R0_9 : Hid (w9.cell? ⟨w6.heap.size, 0, none⟩ = some (.slice BA0 xs0_0.length xs0_0.length)) := Lib.hid (oldcell G9.out R0_8.out)
  have R1_9 : Hid (w9.cell? ⟨w6.heap.size, 1, none⟩ = some (.slice BA1 xs0_1.length xs0_1.length)) := Lib.hid (oldcell G9.out R1_8.out)
  have OV_9 : Hid (OI w9 w7.heap.size (.slice VA xs1.length xs1.length) xs1) := Lib.hid (OV_8.out.bel G9.out)
  have HB9 : Hid (Below w.heap.size w w9) := Lib.hid (HB8.out.trans (G9.out.mono HB8.out.size))
  have OY0_9 : Hid (OI w9 w8.heap.size (.slice YA0 D.length Yc0) D) := Lib.hid oa; clear oa
  have OY1_9 : Hid (OI w9 w8.heap.size (.slice YA1 M.length Yc1) M) := Lib.hid ob; clear ob
  have XY := Lib.hid hap; clear hap
  have IY0 := Lib.hid OY0_9.out.wi; have IY1 := Lib.hid OY1_9.out.wi
  have G10 : Hid (Below w9.heap.size w9 (w9.alloc (.cells #[.slice YA0 D.length Yc0, .slice YA1 M.length Yc1] 35))) := Lib.hid ((Below.refl _ _).alloc (Nat.le_refl _) _)
  have SZ10 : Hid (w9.heap.size + 1 ≤ (w9.alloc (.cells #[.slice YA0 D.length Yc0, .slice YA1 M.length Yc1] 35)).heap.size) := Lib.hid (by simp)
  have P00_10 : Hid ((w9.alloc (.cells #[.slice YA0 D.length Yc0, .slice YA1 M.length Yc1] 35)).cell? ⟨w.heap.size, 0, none⟩ = some (.slice A0_0 xs0_0.length c0_0)) := Lib.hid (oldcell G10.out P00_9.out)
  have P01_10 : Hid ((w9.alloc (.cells #[.slice YA0 D.length Yc0, .slice YA1 M.length Yc1] 35)).cell? ⟨w.heap.size, 1, none⟩ = some (.slice A0_1 xs0_1.length c0_1)) := Lib.hid (oldcell G10.out P01_9.out)
  have OZ0_10 : Hid (OI (w9.alloc (.cells #[.slice YA0 D.length Yc0, .slice YA1 M.length Yc1] 35)) w3.heap.size (.slice ZA0 D.length Zc0) D) := Lib.hid (OZ0_9.out.bel G10.out)
  have OZ1_10 : Hid (OI (w9.alloc (.cells #[.slice YA0 D.length Yc0, .slice YA1 M.length Yc1] 35)) w3.heap.size (.slice ZA1 M.length Zc1) M) := Lib.hid (OZ1_9.out.bel G10.out)
  have Q0_10 : Hid ((w9.alloc (.cells #[.slice YA0 D.length Yc0, .slice YA1 M.length Yc1] 35)).cell? ⟨w4.heap.size, 0, none⟩ = some (.slice ZA0 D.length Zc0)) := Lib.hid (oldcell G10.out Q0_9.out)
  have Q1_10 : Hid ((w9.alloc (.cells #[.slice YA0 D.length Yc0, .slice YA1 M.length Yc1] 35)).cell? ⟨w4.heap.size, 1, none⟩ = some (.slice ZA1 M.length Zc1)) := Lib.hid (oldcell G10.out Q1_9.out)
  have OB0_10 : Hid (OI (w9.alloc (.cells #[.slice YA0 D.length Yc0, .slice YA1 M.length Yc1] 35)) w5.heap.size (.slice BA0 xs0_0.length xs0_0.length) xs0_0) := Lib.hid (OB0_9.out.bel G10.out)
  have OB1_10 : Hid (OI (w9.alloc (.cells #[.slice YA0 D.length Yc0, .slice YA1 M.length Yc1] 35)) w5.heap.size (.slice BA1 xs0_1.length xs0_1.length) xs0_1) := Lib.hid (OB1_9.out.bel G10.out)
  have R0_10 : Hid ((w9.alloc (.cells #[.slice YA0 D.length Yc0, .slice YA1 M.length Yc1] 35)).cell? ⟨w6.heap.size, 0, none⟩ = some (.slice BA0 xs0_0.length xs0_0.length)) := Lib.hid (oldcell G10.out R0_9.out)
  have R1_10 : Hid ((w9.alloc (.cells #[.slice YA0 D.length Yc0, .slice YA1 M.length Yc1] 35)).cell? ⟨w6.heap.size, 1, none⟩ = some (.slice BA1 xs0_1.length xs0_1.length)) := Lib.hid (oldcell G10.out R1_9.out)
  have OV_10 : Hid (OI (w9.alloc (.cells #[.slice YA0 D.length Yc0, .slice YA1 M.length Yc1] 35)) w7.heap.size (.slice VA xs1.length xs1.length) xs1) := Lib.hid (OV_9.out.bel G10.out)
  have OY0_10 : Hid (OI (w9.alloc (.cells #[.slice YA0 D.length Yc0, .slice YA1 M.length Yc1] 35)) w8.heap.size (.slice YA0 D.length Yc0) D) := Lib.hid (OY0_9.out.bel G10.out)
  have OY1_10 : Hid (OI (w9.alloc (.cells #[.slice YA0 D.length Yc0, .slice YA1 M.length Yc1] 35)) w8.heap.size (.slice YA1 M.length Yc1) M) := Lib.hid (OY1_9.out.bel G10.out)
  have HB10 : Hid (Below w.heap.size w (w9.alloc (.cells #[.slice YA0 D.length Yc0, .slice YA1 M.length Yc1] 35))) := Lib.hid (HB9.out.trans (G10.out.mono HB9.out.size))
  have S0_10 : Hid ((w9.alloc (.cells #[.slice YA0 D.length Yc0, .slice YA1 M.length Yc1] 35)).cell? ⟨w9.heap.size, 0, none⟩ = some (.slice YA0 D.length Yc0)) := Lib.hid (by rw [cell_of_row _ _ _ _ _ _ (heap_alloc_new w9 _)]; rfl)
  have S1_10 : Hid ((w9.alloc (.cells #[.slice YA0 D.length Yc0, .slice YA1 M.length Yc1] 35)).cell? ⟨w9.heap.size, 1, none⟩ = some (.slice YA1 M.length Yc1)) := Lib.hid (by rw [cell_of_row _ _ _ _ _ _ (heap_alloc_new w9 _)]; rfl)
  have qP00 := P00_10.out
  have qP01 := P01_10.out
  have qQ0 := Q0_10.out
  have qQ1 := Q1_10.out
  have qR0 := R0_10.out
  have qR1 := R1_10.out
  have qS0 := S0_10.out
  have qS1 := S1_10.out
  go_wp2_with fail
  clear qP00 qP01 qQ0 qQ1 qR0 qR1 qS0 qS1
  generalize (w9.alloc (.cells #[.slice YA0 D.length Yc0, .slice YA1 M.length Yc1] 35)) = w10 at *
  refine (eqSpace_any (OY0_10.out.ri ID.out) (OY1_10.out.ri IM.out) (OZ0_10.out.ri ID.out) (OZ1_10.out.ri IM.out) (Nat.le_refl _)).mono ?_
  rintro e w11 ⟨rfl, g⟩
  have G11 := Lib.hid g; have SZ11 : Hid (w10.heap.size ≤ w11.heap.size) := Lib.hid g.size; clear g
  have P00_11 : Hid (w11.cell? ⟨w.heap.size, 0, none⟩ = some (.slice A0_0 xs0_0.length c0_0)) := Lib.hid (oldcell G11.out P00_10.out)
  have P01_11 : Hid (w11.cell? ⟨w.heap.size, 1, none⟩ = some (.slice A0_1 xs0_1.length c0_1)) := Lib.hid (oldcell G11.out P01_10.out)
  have OZ0_11 : Hid (OI w11 w3.heap.size (.slice ZA0 D.length Zc0) D) := Lib.hid (OZ0_10.out.bel G11.out)
  have OZ1_11 : Hid (OI w11 w3.heap.size (.slice ZA1 M.length Zc1) M) := Lib.hid (OZ1_10.out.bel G11.out)
  have Q0_11 : Hid (w11.cell? ⟨w4.heap.size, 0, none⟩ = some (.slice ZA0 D.length Zc0)) := Lib.hid (oldcell G11.out Q0_10.out)
  have Q1_11 : Hid (w11.cell? ⟨w4.heap.size, 1, none⟩ = some (.slice ZA1 M.length Zc1)) := Lib.hid (oldcell G11.out Q1_10.out)
  have OB0_11 : Hid (OI w11 w5.heap.size (.slice BA0 xs0_0.length xs0_0.length) xs0_0) := Lib.hid (OB0_10.out.bel G11.out)
  have OB1_11 : Hid (OI w11 w5.heap.size (.slice BA1 xs0_1.length xs0_1.length) xs0_1) := Lib.hid (OB1_10.out.bel G11.out)
  have R0_11 : Hid (w11.cell? ⟨w6.heap.size, 0, none⟩ = some (.slice BA0 xs0_0.length xs0_0.length)) := Lib.hid (oldcell G11.out R0_10.out)
  have R1_11 : Hid (w11.cell? ⟨w6.heap.size, 1, none⟩ = some (.slice BA1 xs0_1.length xs0_1.length)) := Lib.hid (oldcell G11.out R1_10.out)
  have OV_11 : Hid (OI w11 w7.heap.size (.slice VA xs1.length xs1.length) xs1) := Lib.hid (OV_10.out.bel G11.out)
  have OY0_11 : Hid (OI w11 w8.heap.size (.slice YA0 D.length Yc0) D) := Lib.hid (OY0_10.out.bel G11.out)
  have OY1_11 : Hid (OI w11 w8.heap.size (.slice YA1 M.length Yc1) M) := Lib.hid (OY1_10.out.bel G11.out)
  have S0_11 : Hid (w11.cell? ⟨w9.heap.size, 0, none⟩ = some (.slice YA0 D.length Yc0)) := Lib.hid (oldcell G11.out S0_10.out)
  have S1_11 : Hid (w11.cell? ⟨w9.heap.size, 1, none⟩ = some (.slice YA1 M.length Yc1)) := Lib.hid (oldcell G11.out S1_10.out)
  have HB11 : Hid (Below w.heap.size w w11) := Lib.hid (HB10.out.trans (G11.out.mono HB10.out.size))
  have HS : Hid (∀ W, Below w11.heap.size w11 W → W.cell? ⟨w.heap.size, 0, none⟩ = some (.slice A0_0 xs0_0.length c0_0) ∧ W.cell? ⟨w.heap.size, 1, none⟩ = some (.slice A0_1 xs0_1.length c0_1) ∧ W.cell? ⟨w4.heap.size, 0, none⟩ = some (.slice ZA0 D.length Zc0) ∧ W.cell? ⟨w4.heap.size, 1, none⟩ = some (.slice ZA1 M.length Zc1) ∧ W.cell? ⟨w6.heap.size, 0, none⟩ = some (.slice BA0 xs0_0.length xs0_0.length) ∧ W.cell? ⟨w6.heap.size, 1, none⟩ = some (.slice BA1 xs0_1.length xs0_1.length) ∧ W.cell? ⟨w9.heap.size, 0, none⟩ = some (.slice YA0 D.length Yc0) ∧ W.cell? ⟨w9.heap.size, 1, none⟩ = some (.slice YA1 M.length Yc1)) := Lib.hid (fun W hW => ⟨oldcell hW P00_11.out, oldcell hW P01_11.out, oldcell hW Q0_11.out, oldcell hW Q1_11.out, oldcell hW R0_11.out, oldcell hW R1_11.out, oldcell hW S0_11.out, oldcell hW S1_11.out⟩)
  have HDr : Hid (Below w11.heap.size w11 w11.drew) := Lib.hid (Below.refl _ _).drew
  have qP00 := P00_11.out
  have qP01 := P01_11.out
  have qQ0 := Q0_11.out
  have qQ1 := Q1_11.out
  have qR0 := R0_11.out
  have qR1 := R1_11.out
  have qS0 := S0_11.out
  have qS1 := S1_11.out
  go_wp2
  clear qP00 qP01 qQ0 qQ1 qR0 qR1 qS0 qS1
  go_region_held3 (fun W => W.cell? ⟨w.heap.size, 0, none⟩ = some (.slice A0_0 xs0_0.length c0_0) ∧ W.cell? ⟨w.heap.size, 1, none⟩ = some (.slice A0_1 xs0_1.length c0_1) ∧ W.cell? ⟨w4.heap.size, 0, none⟩ = some (.slice ZA0 D.length Zc0) ∧ W.cell? ⟨w4.heap.size, 1, none⟩ = some (.slice ZA1 M.length Zc1) ∧ W.cell? ⟨w6.heap.size, 0, none⟩ = some (.slice BA0 xs0_0.length xs0_0.length) ∧ W.cell? ⟨w6.heap.size, 1, none⟩ = some (.slice BA1 xs0_1.length xs0_1.length) ∧ W.cell? ⟨w9.heap.size, 0, none⟩ = some (.slice YA0 D.length Yc0) ∧ W.cell? ⟨w9.heap.size, 1, none⟩ = some (.slice YA1 M.length Yc1)) (exact HS.out _ (by first | exact kb2 | exact kb1 | exact HDr.out))
    ((first | (go_at_call 26; go_fit (toSpace_oi (H0_0.out.at (Nat.le_refl _) (HB11.out.trans (HDr.out.mono HB11.out.size))) (H0_1.out.at (Nat.le_refl _) (HB11.out.trans (HDr.out.mono HB11.out.size))) (Nat.le_refl _) SM0.out); rintro e u1 ⟨KA0, KA1, rfl, oa, ob, -, ga⟩; have OK0 := Lib.hid oa; have OK1 := Lib.hid ob; clear oa ob; have kb1 : Below w11.heap.size w11 u1 := HDr.out.trans ga) | (go_at_call 28; go_fit (eqSpace_any ((OB0_11.out.bel kb1).ri H0_0.out.inI) ((OB1_11.out.bel kb1).ri H0_1.out.inI) (OK0.out.ri H0_0.out.inI) (OK1.out.ri H0_1.out.inI) (Nat.le_refl _)); rintro e w12 ⟨rfl, gb⟩; have kb2 : Below w11.heap.size w11 w12 := kb1.trans (gb.mono kb1.size))))
  try simp only [Exit.then]
  have G12 := Lib.hid kb2; have SZ12 : Hid (w11.heap.size ≤ w12.heap.size) := Lib.hid kb2.size; clear kb1 kb2 ga gb
  have P00_12 : Hid (w12.cell? ⟨w.heap.size, 0, none⟩ = some (.slice A0_0 xs0_0.length c0_0)) := Lib.hid (oldcell G12.out P00_11.out)
  have P01_12 : Hid (w12.cell? ⟨w.heap.size, 1, none⟩ = some (.slice A0_1 xs0_1.length c0_1)) := Lib.hid (oldcell G12.out P01_11.out)
  have OZ0_12 : Hid (OI w12 w3.heap.size (.slice ZA0 D.length Zc0) D) := Lib.hid (OZ0_11.out.bel G12.out)
  have OZ1_12 : Hid (OI w12 w3.heap.size (.slice ZA1 M.length Zc1) M) := Lib.hid (OZ1_11.out.bel G12.out)
  have Q0_12 : Hid (w12.cell? ⟨w4.heap.size, 0, none⟩ = some (.slice ZA0 D.length Zc0)) := Lib.hid (oldcell G12.out Q0_11.out)
  have Q1_12 : Hid (w12.cell? ⟨w4.heap.size, 1, none⟩ = some (.slice ZA1 M.length Zc1)) := Lib.hid (oldcell G12.out Q1_11.out)
  have OB0_12 : Hid (OI w12 w5.heap.size (.slice BA0 xs0_0.length xs0_0.length) xs0_0) := Lib.hid (OB0_11.out.bel G12.out)
  have OB1_12 : Hid (OI w12 w5.heap.size (.slice BA1 xs0_1.length xs0_1.length) xs0_1) := Lib.hid (OB1_11.out.bel G12.out)
  have R0_12 : Hid (w12.cell? ⟨w6.heap.size, 0, none⟩ = some (.slice BA0 xs0_0.length xs0_0.length)) := Lib.hid (oldcell G12.out R0_11.out)
  have R1_12 : Hid (w12.cell? ⟨w6.heap.size, 1, none⟩ = some (.slice BA1 xs0_1.length xs0_1.length)) := Lib.hid (oldcell G12.out R1_11.out)
  have OV_12 : Hid (OI w12 w7.heap.size (.slice VA xs1.length xs1.length) xs1) := Lib.hid (OV_11.out.bel G12.out)
  have OY0_12 : Hid (OI w12 w8.heap.size (.slice YA0 D.length Yc0) D) := Lib.hid (OY0_11.out.bel G12.out)
  have OY1_12 : Hid (OI w12 w8.heap.size (.slice YA1 M.length Yc1) M) := Lib.hid (OY1_11.out.bel G12.out)
  have S0_12 : Hid (w12.cell? ⟨w9.heap.size, 0, none⟩ = some (.slice YA0 D.length Yc0)) := Lib.hid (oldcell G12.out S0_11.out)
  have S1_12 : Hid (w12.cell? ⟨w9.heap.size, 1, none⟩ = some (.slice YA1 M.length Yc1)) := Lib.hid (oldcell G12.out S1_11.out)
  have HB12 : Hid (Below w.heap.size w w12) := Lib.hid (HB11.out.trans (G12.out.mono HB11.out.size))
  have qP00 := P00_12.out
  have qP01 := P01_12.out
  have qQ0 := Q0_12.out
  have qQ1 := Q1_12.out
  have qR0 := R0_12.out
  have qR1 := R1_12.out
  have qS0 := S0_12.out
  have qS1 := S1_12.out
  go_wp2_with fail
  clear qP00 qP01 qQ0 qQ1 qR0 qR1 qS0 qS1
  refine (toI_oi (H1.out.at (Nat.le_refl _) HB12.out) (Nat.le_refl _) Sd.out).mono ?_
  rintro e w13 ⟨NA, rfl, oa, g⟩
  have G13 := Lib.hid g; have SZ13 : Hid (w12.heap.size ≤ w13.heap.size) := Lib.hid g.size; clear g
  have P00_13 : Hid (w13.cell? ⟨w.heap.size, 0, none⟩ = some (.slice A0_0 xs0_0.length c0_0)) := Lib.hid (oldcell G13.out P00_12.out)
  have P01_13 : Hid (w13.cell? ⟨w.heap.size, 1, none⟩ = some (.slice A0_1 xs0_1.length c0_1)) := Lib.hid (oldcell G13.out P01_12.out)
  have OZ0_13 : Hid (OI w13 w3.heap.size (.slice ZA0 D.length Zc0) D) := Lib.hid (OZ0_12.out.bel G13.out)
  have OZ1_13 : Hid (OI w13 w3.heap.size (.slice ZA1 M.length Zc1) M) := Lib.hid (OZ1_12.out.bel G13.out)
  have Q0_13 : Hid (w13.cell? ⟨w4.heap.size, 0, none⟩ = some (.slice ZA0 D.length Zc0)) := Lib.hid (oldcell G13.out Q0_12.out)
  have Q1_13 : Hid (w13.cell? ⟨w4.heap.size, 1, none⟩ = some (.slice ZA1 M.length Zc1)) := Lib.hid (oldcell G13.out Q1_12.out)
  have OB0_13 : Hid (OI w13 w5.heap.size (.slice BA0 xs0_0.length xs0_0.length) xs0_0) := Lib.hid (OB0_12.out.bel G13.out)
  have OB1_13 : Hid (OI w13 w5.heap.size (.slice BA1 xs0_1.length xs0_1.length) xs0_1) := Lib.hid (OB1_12.out.bel G13.out)
  have R0_13 : Hid (w13.cell? ⟨w6.heap.size, 0, none⟩ = some (.slice BA0 xs0_0.length xs0_0.length)) := Lib.hid (oldcell G13.out R0_12.out)
  have R1_13 : Hid (w13.cell? ⟨w6.heap.size, 1, none⟩ = some (.slice BA1 xs0_1.length xs0_1.length)) := Lib.hid (oldcell G13.out R1_12.out)
  have OV_13 : Hid (OI w13 w7.heap.size (.slice VA xs1.length xs1.length) xs1) := Lib.hid (OV_12.out.bel G13.out)
  have OY0_13 : Hid (OI w13 w8.heap.size (.slice YA0 D.length Yc0) D) := Lib.hid (OY0_12.out.bel G13.out)
  have OY1_13 : Hid (OI w13 w8.heap.size (.slice YA1 M.length Yc1) M) := Lib.hid (OY1_12.out.bel G13.out)
  have S0_13 : Hid (w13.cell? ⟨w9.heap.size, 0, none⟩ = some (.slice YA0 D.length Yc0)) := Lib.hid (oldcell G13.out S0_12.out)
  have S1_13 : Hid (w13.cell? ⟨w9.heap.size, 1, none⟩ = some (.slice YA1 M.length Yc1)) := Lib.hid (oldcell G13.out S1_12.out)
  have HB13 : Hid (Below w.heap.size w w13) := Lib.hid (HB12.out.trans (G13.out.mono HB12.out.size))
  have ON_13 : Hid (OI w13 w12.heap.size (.slice NA xs1.length xs1.length) xs1) := Lib.hid oa; clear oa
  have IN := Lib.hid ON_13.out.wi
  have qP00 := P00_13.out
  have qP01 := P01_13.out
  have qQ0 := Q0_13.out
  have qQ1 := Q1_13.out
  have qR0 := R0_13.out
  have qR1 := R1_13.out
  have qS0 := S0_13.out
  have qS1 := S1_13.out
  go_wp2_with fail
  clear qP00 qP01 qQ0 qQ1 qR0 qR1 qS0 qS1
  refine (eqI_any (OV_13.out.ri H1.out.inI) (ON_13.out.ri H1.out.inI) (Nat.le_refl _)).mono ?_
  rintro e w14 ⟨rfl, g⟩
  have G14 := Lib.hid g; have SZ14 : Hid (w13.heap.size ≤ w14.heap.size) := Lib.hid g.size; clear g
  have P00_14 : Hid (w14.cell? ⟨w.heap.size, 0, none⟩ = some (.slice A0_0 xs0_0.length c0_0)) := Lib.hid (oldcell G14.out P00_13.out)
  have P01_14 : Hid (w14.cell? ⟨w.heap.size, 1, none⟩ = some (.slice A0_1 xs0_1.length c0_1)) := Lib.hid (oldcell G14.out P01_13.out)
  have OZ0_14 : Hid (OI w14 w3.heap.size (.slice ZA0 D.length Zc0) D) := Lib.hid (OZ0_13.out.bel G14.out)
  have OZ1_14 : Hid (OI w14 w3.heap.size (.slice ZA1 M.length Zc1) M) := Lib.hid (OZ1_13.out.bel G14.out)
  have Q0_14 : Hid (w14.cell? ⟨w4.heap.size, 0, none⟩ = some (.slice ZA0 D.length Zc0)) := Lib.hid (oldcell G14.out Q0_13.out)
  have Q1_14 : Hid (w14.cell? ⟨w4.heap.size, 1, none⟩ = some (.slice ZA1 M.length Zc1)) := Lib.hid (oldcell G14.out Q1_13.out)
  have OB0_14 : Hid (OI w14 w5.heap.size (.slice BA0 xs0_0.length xs0_0.length) xs0_0) := Lib.hid (OB0_13.out.bel G14.out)
  have OB1_14 : Hid (OI w14 w5.heap.size (.slice BA1 xs0_1.length xs0_1.length) xs0_1) := Lib.hid (OB1_13.out.bel G14.out)
  have R0_14 : Hid (w14.cell? ⟨w6.heap.size, 0, none⟩ = some (.slice BA0 xs0_0.length xs0_0.length)) := Lib.hid (oldcell G14.out R0_13.out)
  have R1_14 : Hid (w14.cell? ⟨w6.heap.size, 1, none⟩ = some (.slice BA1 xs0_1.length xs0_1.length)) := Lib.hid (oldcell G14.out R1_13.out)
  have OV_14 : Hid (OI w14 w7.heap.size (.slice VA xs1.length xs1.length) xs1) := Lib.hid (OV_13.out.bel G14.out)
  have OY0_14 : Hid (OI w14 w8.heap.size (.slice YA0 D.length Yc0) D) := Lib.hid (OY0_13.out.bel G14.out)
  have OY1_14 : Hid (OI w14 w8.heap.size (.slice YA1 M.length Yc1) M) := Lib.hid (OY1_13.out.bel G14.out)
  have S0_14 : Hid (w14.cell? ⟨w9.heap.size, 0, none⟩ = some (.slice YA0 D.length Yc0)) := Lib.hid (oldcell G14.out S0_13.out)
  have S1_14 : Hid (w14.cell? ⟨w9.heap.size, 1, none⟩ = some (.slice YA1 M.length Yc1)) := Lib.hid (oldcell G14.out S1_13.out)
  have ON_14 : Hid (OI w14 w12.heap.size (.slice NA xs1.length xs1.length) xs1) := Lib.hid (ON_13.out.bel G14.out)
  have HB14 : Hid (Below w.heap.size w w14) := Lib.hid (HB13.out.trans (G14.out.mono HB13.out.size))
  have qP00 := P00_14.out
  have qP01 := P01_14.out
  have qQ0 := Q0_14.out
  have qQ1 := Q1_14.out
  have qR0 := R0_14.out
  have qR1 := R1_14.out
  have qS0 := S0_14.out
  have qS1 := S1_14.out
  go_wp2_with fail
  clear qP00 qP01 qQ0 qQ1 qR0 qR1 qS0 qS1
  refine (markSpace_any (lo := w5.heap.size) (hi := w6.heap.size) OB0_14.out OB1_14.out IB0.out IB1.out XB.out (by have s0 := SZ0.out; have s1 := SZ1.out; have s2 := SZ2.out; have s3 := SZ3.out; have s4 := SZ4.out; have s5 := SZ5.out; have s6 := SZ6.out; have s7 := SZ7.out; have s8 := SZ8.out; have s9 := SZ9.out; have s10 := SZ10.out; have s11 := SZ11.out; have s12 := SZ12.out; have s13 := SZ13.out; have s14 := SZ14.out; omega) 1 (by have h1 := SM0.out; omega)).mono ?_
  rintro e w15 ⟨rfl, _, _, mm⟩
  have Mv15 : Hid (Mv w5.heap.size w6.heap.size w14 w15) := Lib.hid (mm)
  have SZ15 : Hid (w14.heap.size ≤ w15.heap.size) := Lib.hid Mv15.out.2.2.2.1
  have P00_15 : Hid (w15.cell? ⟨w.heap.size, 0, none⟩ = some (.slice A0_0 xs0_0.length c0_0)) := Lib.hid (Mv15.out.cell P00_14.out (by have s0 := SZ0.out; have s1 := SZ1.out; have s2 := SZ2.out; have s3 := SZ3.out; have s4 := SZ4.out; have s5 := SZ5.out; have s6 := SZ6.out; have s7 := SZ7.out; have s8 := SZ8.out; have s9 := SZ9.out; have s10 := SZ10.out; have s11 := SZ11.out; have s12 := SZ12.out; have s13 := SZ13.out; have s14 := SZ14.out; have s15 := SZ15.out; simp only; omega))
  have P01_15 : Hid (w15.cell? ⟨w.heap.size, 1, none⟩ = some (.slice A0_1 xs0_1.length c0_1)) := Lib.hid (Mv15.out.cell P01_14.out (by have s0 := SZ0.out; have s1 := SZ1.out; have s2 := SZ2.out; have s3 := SZ3.out; have s4 := SZ4.out; have s5 := SZ5.out; have s6 := SZ6.out; have s7 := SZ7.out; have s8 := SZ8.out; have s9 := SZ9.out; have s10 := SZ10.out; have s11 := SZ11.out; have s12 := SZ12.out; have s13 := SZ13.out; have s14 := SZ14.out; have s15 := SZ15.out; simp only; omega))
  have OZ0_15 : Hid (OI w15 w3.heap.size (.slice ZA0 D.length Zc0) D) := Lib.hid (OZ0_14.out.mv Mv15.out (fun g hg => by have := IZ0.out g hg; have s0 := SZ0.out; have s1 := SZ1.out; have s2 := SZ2.out; have s3 := SZ3.out; have s4 := SZ4.out; have s5 := SZ5.out; have s6 := SZ6.out; have s7 := SZ7.out; have s8 := SZ8.out; have s9 := SZ9.out; have s10 := SZ10.out; have s11 := SZ11.out; have s12 := SZ12.out; have s13 := SZ13.out; have s14 := SZ14.out; have s15 := SZ15.out; omega))
  have OZ1_15 : Hid (OI w15 w3.heap.size (.slice ZA1 M.length Zc1) M) := Lib.hid (OZ1_14.out.mv Mv15.out (fun g hg => by have := IZ1.out g hg; have s0 := SZ0.out; have s1 := SZ1.out; have s2 := SZ2.out; have s3 := SZ3.out; have s4 := SZ4.out; have s5 := SZ5.out; have s6 := SZ6.out; have s7 := SZ7.out; have s8 := SZ8.out; have s9 := SZ9.out; have s10 := SZ10.out; have s11 := SZ11.out; have s12 := SZ12.out; have s13 := SZ13.out; have s14 := SZ14.out; have s15 := SZ15.out; omega))
  have Q0_15 : Hid (w15.cell? ⟨w4.heap.size, 0, none⟩ = some (.slice ZA0 D.length Zc0)) := Lib.hid (Mv15.out.cell Q0_14.out (by have s0 := SZ0.out; have s1 := SZ1.out; have s2 := SZ2.out; have s3 := SZ3.out; have s4 := SZ4.out; have s5 := SZ5.out; have s6 := SZ6.out; have s7 := SZ7.out; have s8 := SZ8.out; have s9 := SZ9.out; have s10 := SZ10.out; have s11 := SZ11.out; have s12 := SZ12.out; have s13 := SZ13.out; have s14 := SZ14.out; have s15 := SZ15.out; simp only; omega))
  have Q1_15 : Hid (w15.cell? ⟨w4.heap.size, 1, none⟩ = some (.slice ZA1 M.length Zc1)) := Lib.hid (Mv15.out.cell Q1_14.out (by have s0 := SZ0.out; have s1 := SZ1.out; have s2 := SZ2.out; have s3 := SZ3.out; have s4 := SZ4.out; have s5 := SZ5.out; have s6 := SZ6.out; have s7 := SZ7.out; have s8 := SZ8.out; have s9 := SZ9.out; have s10 := SZ10.out; have s11 := SZ11.out; have s12 := SZ12.out; have s13 := SZ13.out; have s14 := SZ14.out; have s15 := SZ15.out; simp only; omega))
  have OV_15 : Hid (OI w15 w7.heap.size (.slice VA xs1.length xs1.length) xs1) := Lib.hid (OV_14.out.mv Mv15.out (fun g hg => by have := IV.out g hg; have s0 := SZ0.out; have s1 := SZ1.out; have s2 := SZ2.out; have s3 := SZ3.out; have s4 := SZ4.out; have s5 := SZ5.out; have s6 := SZ6.out; have s7 := SZ7.out; have s8 := SZ8.out; have s9 := SZ9.out; have s10 := SZ10.out; have s11 := SZ11.out; have s12 := SZ12.out; have s13 := SZ13.out; have s14 := SZ14.out; have s15 := SZ15.out; omega))
  have OY0_15 : Hid (OI w15 w8.heap.size (.slice YA0 D.length Yc0) D) := Lib.hid (OY0_14.out.mv Mv15.out (fun g hg => by have := IY0.out g hg; have s0 := SZ0.out; have s1 := SZ1.out; have s2 := SZ2.out; have s3 := SZ3.out; have s4 := SZ4.out; have s5 := SZ5.out; have s6 := SZ6.out; have s7 := SZ7.out; have s8 := SZ8.out; have s9 := SZ9.out; have s10 := SZ10.out; have s11 := SZ11.out; have s12 := SZ12.out; have s13 := SZ13.out; have s14 := SZ14.out; have s15 := SZ15.out; omega))
  have OY1_15 : Hid (OI w15 w8.heap.size (.slice YA1 M.length Yc1) M) := Lib.hid (OY1_14.out.mv Mv15.out (fun g hg => by have := IY1.out g hg; have s0 := SZ0.out; have s1 := SZ1.out; have s2 := SZ2.out; have s3 := SZ3.out; have s4 := SZ4.out; have s5 := SZ5.out; have s6 := SZ6.out; have s7 := SZ7.out; have s8 := SZ8.out; have s9 := SZ9.out; have s10 := SZ10.out; have s11 := SZ11.out; have s12 := SZ12.out; have s13 := SZ13.out; have s14 := SZ14.out; have s15 := SZ15.out; omega))
  have S0_15 : Hid (w15.cell? ⟨w9.heap.size, 0, none⟩ = some (.slice YA0 D.length Yc0)) := Lib.hid (Mv15.out.cell S0_14.out (by have s0 := SZ0.out; have s1 := SZ1.out; have s2 := SZ2.out; have s3 := SZ3.out; have s4 := SZ4.out; have s5 := SZ5.out; have s6 := SZ6.out; have s7 := SZ7.out; have s8 := SZ8.out; have s9 := SZ9.out; have s10 := SZ10.out; have s11 := SZ11.out; have s12 := SZ12.out; have s13 := SZ13.out; have s14 := SZ14.out; have s15 := SZ15.out; simp only; omega))
  have S1_15 : Hid (w15.cell? ⟨w9.heap.size, 1, none⟩ = some (.slice YA1 M.length Yc1)) := Lib.hid (Mv15.out.cell S1_14.out (by have s0 := SZ0.out; have s1 := SZ1.out; have s2 := SZ2.out; have s3 := SZ3.out; have s4 := SZ4.out; have s5 := SZ5.out; have s6 := SZ6.out; have s7 := SZ7.out; have s8 := SZ8.out; have s9 := SZ9.out; have s10 := SZ10.out; have s11 := SZ11.out; have s12 := SZ12.out; have s13 := SZ13.out; have s14 := SZ14.out; have s15 := SZ15.out; simp only; omega))
  have HB15 : Hid (Below w.heap.size w w15) := Lib.hid (Mv15.out.below HB14.out (by have s0 := SZ0.out; have s1 := SZ1.out; have s2 := SZ2.out; have s3 := SZ3.out; have s4 := SZ4.out; have s5 := SZ5.out; have s6 := SZ6.out; have s7 := SZ7.out; have s8 := SZ8.out; have s9 := SZ9.out; have s10 := SZ10.out; have s11 := SZ11.out; have s12 := SZ12.out; have s13 := SZ13.out; have s14 := SZ14.out; have s15 := SZ15.out; omega) HB14.out.size)
  have qP00 := P00_15.out
  have qP01 := P01_15.out
  have qQ0 := Q0_15.out
  have qQ1 := Q1_15.out
  have qS0 := S0_15.out
  have qS1 := S1_15.out
  go_wp2_with fail
  clear qP00 qP01 qQ0 qQ1 qS0 qS1
  refine (markI_any OV_15.out (1 + xs0_0.length + xs0_1.length) (by have h1 := SM0.out; have h2 := Sd.out; omega)).mono ?_
  rintro e w16 ⟨rfl, _, gg⟩
  have Mv16 : Hid (Mv w7.heap.size w8.heap.size w15 w16) := Lib.hid (Mv.grown gg IV.out)
  have SZ16 : Hid (w15.heap.size ≤ w16.heap.size) := Lib.hid Mv16.out.2.2.2.1
  have P00_16 : Hid (w16.cell? ⟨w.heap.size, 0, none⟩ = some (.slice A0_0 xs0_0.length c0_0)) := Lib.hid (Mv16.out.cell P00_15.out (by have s0 := SZ0.out; have s1 := SZ1.out; have s2 := SZ2.out; have s3 := SZ3.out; have s4 := SZ4.out; have s5 := SZ5.out; have s6 := SZ6.out; have s7 := SZ7.out; have s8 := SZ8.out; have s9 := SZ9.out; have s10 := SZ10.out; have s11 := SZ11.out; have s12 := SZ12.out; have s13 := SZ13.out; have s14 := SZ14.out; have s15 := SZ15.out; have s16 := SZ16.out; simp only; omega))
  have P01_16 : Hid (w16.cell? ⟨w.heap.size, 1, none⟩ = some (.slice A0_1 xs0_1.length c0_1)) := Lib.hid (Mv16.out.cell P01_15.out (by have s0 := SZ0.out; have s1 := SZ1.out; have s2 := SZ2.out; have s3 := SZ3.out; have s4 := SZ4.out; have s5 := SZ5.out; have s6 := SZ6.out; have s7 := SZ7.out; have s8 := SZ8.out; have s9 := SZ9.out; have s10 := SZ10.out; have s11 := SZ11.out; have s12 := SZ12.out; have s13 := SZ13.out; have s14 := SZ14.out; have s15 := SZ15.out; have s16 := SZ16.out; simp only; omega))
  have OZ0_16 : Hid (OI w16 w3.heap.size (.slice ZA0 D.length Zc0) D) := Lib.hid (OZ0_15.out.mv Mv16.out (fun g hg => by have := IZ0.out g hg; have s0 := SZ0.out; have s1 := SZ1.out; have s2 := SZ2.out; have s3 := SZ3.out; have s4 := SZ4.out; have s5 := SZ5.out; have s6 := SZ6.out; have s7 := SZ7.out; have s8 := SZ8.out; have s9 := SZ9.out; have s10 := SZ10.out; have s11 := SZ11.out; have s12 := SZ12.out; have s13 := SZ13.out; have s14 := SZ14.out; have s15 := SZ15.out; have s16 := SZ16.out; omega))
  have OZ1_16 : Hid (OI w16 w3.heap.size (.slice ZA1 M.length Zc1) M) := Lib.hid (OZ1_15.out.mv Mv16.out (fun g hg => by have := IZ1.out g hg; have s0 := SZ0.out; have s1 := SZ1.out; have s2 := SZ2.out; have s3 := SZ3.out; have s4 := SZ4.out; have s5 := SZ5.out; have s6 := SZ6.out; have s7 := SZ7.out; have s8 := SZ8.out; have s9 := SZ9.out; have s10 := SZ10.out; have s11 := SZ11.out; have s12 := SZ12.out; have s13 := SZ13.out; have s14 := SZ14.out; have s15 := SZ15.out; have s16 := SZ16.out; omega))
  have Q0_16 : Hid (w16.cell? ⟨w4.heap.size, 0, none⟩ = some (.slice ZA0 D.length Zc0)) := Lib.hid (Mv16.out.cell Q0_15.out (by have s0 := SZ0.out; have s1 := SZ1.out; have s2 := SZ2.out; have s3 := SZ3.out; have s4 := SZ4.out; have s5 := SZ5.out; have s6 := SZ6.out; have s7 := SZ7.out; have s8 := SZ8.out; have s9 := SZ9.out; have s10 := SZ10.out; have s11 := SZ11.out; have s12 := SZ12.out; have s13 := SZ13.out; have s14 := SZ14.out; have s15 := SZ15.out; have s16 := SZ16.out; simp only; omega))
  have Q1_16 : Hid (w16.cell? ⟨w4.heap.size, 1, none⟩ = some (.slice ZA1 M.length Zc1)) := Lib.hid (Mv16.out.cell Q1_15.out (by have s0 := SZ0.out; have s1 := SZ1.out; have s2 := SZ2.out; have s3 := SZ3.out; have s4 := SZ4.out; have s5 := SZ5.out; have s6 := SZ6.out; have s7 := SZ7.out; have s8 := SZ8.out; have s9 := SZ9.out; have s10 := SZ10.out; have s11 := SZ11.out; have s12 := SZ12.out; have s13 := SZ13.out; have s14 := SZ14.out; have s15 := SZ15.out; have s16 := SZ16.out; simp only; omega))
  have OY0_16 : Hid (OI w16 w8.heap.size (.slice YA0 D.length Yc0) D) := Lib.hid (OY0_15.out.mv Mv16.out (fun g hg => by have := IY0.out g hg; have s0 := SZ0.out; have s1 := SZ1.out; have s2 := SZ2.out; have s3 := SZ3.out; have s4 := SZ4.out; have s5 := SZ5.out; have s6 := SZ6.out; have s7 := SZ7.out; have s8 := SZ8.out; have s9 := SZ9.out; have s10 := SZ10.out; have s11 := SZ11.out; have s12 := SZ12.out; have s13 := SZ13.out; have s14 := SZ14.out; have s15 := SZ15.out; have s16 := SZ16.out; omega))
  have OY1_16 : Hid (OI w16 w8.heap.size (.slice YA1 M.length Yc1) M) := Lib.hid (OY1_15.out.mv Mv16.out (fun g hg => by have := IY1.out g hg; have s0 := SZ0.out; have s1 := SZ1.out; have s2 := SZ2.out; have s3 := SZ3.out; have s4 := SZ4.out; have s5 := SZ5.out; have s6 := SZ6.out; have s7 := SZ7.out; have s8 := SZ8.out; have s9 := SZ9.out; have s10 := SZ10.out; have s11 := SZ11.out; have s12 := SZ12.out; have s13 := SZ13.out; have s14 := SZ14.out; have s15 := SZ15.out; have s16 := SZ16.out; omega))
  have S0_16 : Hid (w16.cell? ⟨w9.heap.size, 0, none⟩ = some (.slice YA0 D.length Yc0)) := Lib.hid (Mv16.out.cell S0_15.out (by have s0 := SZ0.out; have s1 := SZ1.out; have s2 := SZ2.out; have s3 := SZ3.out; have s4 := SZ4.out; have s5 := SZ5.out; have s6 := SZ6.out; have s7 := SZ7.out; have s8 := SZ8.out; have s9 := SZ9.out; have s10 := SZ10.out; have s11 := SZ11.out; have s12 := SZ12.out; have s13 := SZ13.out; have s14 := SZ14.out; have s15 := SZ15.out; have s16 := SZ16.out; simp only; omega))
  have S1_16 : Hid (w16.cell? ⟨w9.heap.size, 1, none⟩ = some (.slice YA1 M.length Yc1)) := Lib.hid (Mv16.out.cell S1_15.out (by have s0 := SZ0.out; have s1 := SZ1.out; have s2 := SZ2.out; have s3 := SZ3.out; have s4 := SZ4.out; have s5 := SZ5.out; have s6 := SZ6.out; have s7 := SZ7.out; have s8 := SZ8.out; have s9 := SZ9.out; have s10 := SZ10.out; have s11 := SZ11.out; have s12 := SZ12.out; have s13 := SZ13.out; have s14 := SZ14.out; have s15 := SZ15.out; have s16 := SZ16.out; simp only; omega))
  have HB16 : Hid (Below w.heap.size w w16) := Lib.hid (Mv16.out.below HB15.out (by have s0 := SZ0.out; have s1 := SZ1.out; have s2 := SZ2.out; have s3 := SZ3.out; have s4 := SZ4.out; have s5 := SZ5.out; have s6 := SZ6.out; have s7 := SZ7.out; have s8 := SZ8.out; have s9 := SZ9.out; have s10 := SZ10.out; have s11 := SZ11.out; have s12 := SZ12.out; have s13 := SZ13.out; have s14 := SZ14.out; have s15 := SZ15.out; have s16 := SZ16.out; omega) HB15.out.size)
  have neg1 : ¬ (((1 + xs0_0.length + xs0_1.length + xs1.length : Nat) : Int) < 0) := by omega
  have qP00 := P00_16.out
  have qP01 := P01_16.out
  have qQ0 := Q0_16.out
  have qQ1 := Q1_16.out
  have qS0 := S0_16.out
  have qS1 := S1_16.out
  go_wp2_with fail
  clear qP00 qP01 qQ0 qQ1 qS0 qS1
  refine (eqSpace_any (OY0_16.out.ri ID.out) (OY1_16.out.ri IM.out) (OZ0_16.out.ri ID.out) (OZ1_16.out.ri IM.out) (Nat.le_refl _)).mono ?_
  rintro e w17 ⟨rfl, g⟩
  have G17 := Lib.hid g; have SZ17 : Hid (w16.heap.size ≤ w17.heap.size) := Lib.hid g.size; clear g
  have P00_17 : Hid (w17.cell? ⟨w.heap.size, 0, none⟩ = some (.slice A0_0 xs0_0.length c0_0)) := Lib.hid (oldcell G17.out P00_16.out)
  have P01_17 : Hid (w17.cell? ⟨w.heap.size, 1, none⟩ = some (.slice A0_1 xs0_1.length c0_1)) := Lib.hid (oldcell G17.out P01_16.out)
  have OZ0_17 : Hid (OI w17 w3.heap.size (.slice ZA0 D.length Zc0) D) := Lib.hid (OZ0_16.out.bel G17.out)
  have OZ1_17 : Hid (OI w17 w3.heap.size (.slice ZA1 M.length Zc1) M) := Lib.hid (OZ1_16.out.bel G17.out)
  have Q0_17 : Hid (w17.cell? ⟨w4.heap.size, 0, none⟩ = some (.slice ZA0 D.length Zc0)) := Lib.hid (oldcell G17.out Q0_16.out)
  have Q1_17 : Hid (w17.cell? ⟨w4.heap.size, 1, none⟩ = some (.slice ZA1 M.length Zc1)) := Lib.hid (oldcell G17.out Q1_16.out)
  have OY0_17 : Hid (OI w17 w8.heap.size (.slice YA0 D.length Yc0) D) := Lib.hid (OY0_16.out.bel G17.out)
  have OY1_17 : Hid (OI w17 w8.heap.size (.slice YA1 M.length Yc1) M) := Lib.hid (OY1_16.out.bel G17.out)
  have S0_17 : Hid (w17.cell? ⟨w9.heap.size, 0, none⟩ = some (.slice YA0 D.length Yc0)) := Lib.hid (oldcell G17.out S0_16.out)
  have S1_17 : Hid (w17.cell? ⟨w9.heap.size, 1, none⟩ = some (.slice YA1 M.length Yc1)) := Lib.hid (oldcell G17.out S1_16.out)
  have HB17 : Hid (Below w.heap.size w w17) := Lib.hid (HB16.out.trans (G17.out.mono HB16.out.size))
  have qP00 := P00_17.out
  have qP01 := P01_17.out
  have qQ0 := Q0_17.out
  have qQ1 := Q1_17.out
  have qS0 := S0_17.out
  have qS1 := S1_17.out
  go_wp2_with fail
  clear qP00 qP01 qQ0 qQ1 qS0 qS1
  refine (markSpace_any (lo := w8.heap.size) (hi := w9.heap.size) OY0_17.out OY1_17.out IY0.out IY1.out XY.out (by have s0 := SZ0.out; have s1 := SZ1.out; have s2 := SZ2.out; have s3 := SZ3.out; have s4 := SZ4.out; have s5 := SZ5.out; have s6 := SZ6.out; have s7 := SZ7.out; have s8 := SZ8.out; have s9 := SZ9.out; have s10 := SZ10.out; have s11 := SZ11.out; have s12 := SZ12.out; have s13 := SZ13.out; have s14 := SZ14.out; have s15 := SZ15.out; have s16 := SZ16.out; have s17 := SZ17.out; omega) 1 (by have h1 := LD.out; have h2 := LM.out; omega)).mono ?_
  rintro e w18 ⟨rfl, oa, ob, mm⟩
  have Mv18 : Hid (Mv w8.heap.size w9.heap.size w17 w18) := Lib.hid (mm)
  have SZ18 : Hid (w17.heap.size ≤ w18.heap.size) := Lib.hid Mv18.out.2.2.2.1
  have P00_18 : Hid (w18.cell? ⟨w.heap.size, 0, none⟩ = some (.slice A0_0 xs0_0.length c0_0)) := Lib.hid (Mv18.out.cell P00_17.out (by have s0 := SZ0.out; have s1 := SZ1.out; have s2 := SZ2.out; have s3 := SZ3.out; have s4 := SZ4.out; have s5 := SZ5.out; have s6 := SZ6.out; have s7 := SZ7.out; have s8 := SZ8.out; have s9 := SZ9.out; have s10 := SZ10.out; have s11 := SZ11.out; have s12 := SZ12.out; have s13 := SZ13.out; have s14 := SZ14.out; have s15 := SZ15.out; have s16 := SZ16.out; have s17 := SZ17.out; have s18 := SZ18.out; simp only; omega))
  have P01_18 : Hid (w18.cell? ⟨w.heap.size, 1, none⟩ = some (.slice A0_1 xs0_1.length c0_1)) := Lib.hid (Mv18.out.cell P01_17.out (by have s0 := SZ0.out; have s1 := SZ1.out; have s2 := SZ2.out; have s3 := SZ3.out; have s4 := SZ4.out; have s5 := SZ5.out; have s6 := SZ6.out; have s7 := SZ7.out; have s8 := SZ8.out; have s9 := SZ9.out; have s10 := SZ10.out; have s11 := SZ11.out; have s12 := SZ12.out; have s13 := SZ13.out; have s14 := SZ14.out; have s15 := SZ15.out; have s16 := SZ16.out; have s17 := SZ17.out; have s18 := SZ18.out; simp only; omega))
  have OZ0_18 : Hid (OI w18 w3.heap.size (.slice ZA0 D.length Zc0) D) := Lib.hid (OZ0_17.out.mv Mv18.out (fun g hg => by have := IZ0.out g hg; have s0 := SZ0.out; have s1 := SZ1.out; have s2 := SZ2.out; have s3 := SZ3.out; have s4 := SZ4.out; have s5 := SZ5.out; have s6 := SZ6.out; have s7 := SZ7.out; have s8 := SZ8.out; have s9 := SZ9.out; have s10 := SZ10.out; have s11 := SZ11.out; have s12 := SZ12.out; have s13 := SZ13.out; have s14 := SZ14.out; have s15 := SZ15.out; have s16 := SZ16.out; have s17 := SZ17.out; have s18 := SZ18.out; omega))
  have OZ1_18 : Hid (OI w18 w3.heap.size (.slice ZA1 M.length Zc1) M) := Lib.hid (OZ1_17.out.mv Mv18.out (fun g hg => by have := IZ1.out g hg; have s0 := SZ0.out; have s1 := SZ1.out; have s2 := SZ2.out; have s3 := SZ3.out; have s4 := SZ4.out; have s5 := SZ5.out; have s6 := SZ6.out; have s7 := SZ7.out; have s8 := SZ8.out; have s9 := SZ9.out; have s10 := SZ10.out; have s11 := SZ11.out; have s12 := SZ12.out; have s13 := SZ13.out; have s14 := SZ14.out; have s15 := SZ15.out; have s16 := SZ16.out; have s17 := SZ17.out; have s18 := SZ18.out; omega))
  have Q0_18 : Hid (w18.cell? ⟨w4.heap.size, 0, none⟩ = some (.slice ZA0 D.length Zc0)) := Lib.hid (Mv18.out.cell Q0_17.out (by have s0 := SZ0.out; have s1 := SZ1.out; have s2 := SZ2.out; have s3 := SZ3.out; have s4 := SZ4.out; have s5 := SZ5.out; have s6 := SZ6.out; have s7 := SZ7.out; have s8 := SZ8.out; have s9 := SZ9.out; have s10 := SZ10.out; have s11 := SZ11.out; have s12 := SZ12.out; have s13 := SZ13.out; have s14 := SZ14.out; have s15 := SZ15.out; have s16 := SZ16.out; have s17 := SZ17.out; have s18 := SZ18.out; simp only; omega))
  have Q1_18 : Hid (w18.cell? ⟨w4.heap.size, 1, none⟩ = some (.slice ZA1 M.length Zc1)) := Lib.hid (Mv18.out.cell Q1_17.out (by have s0 := SZ0.out; have s1 := SZ1.out; have s2 := SZ2.out; have s3 := SZ3.out; have s4 := SZ4.out; have s5 := SZ5.out; have s6 := SZ6.out; have s7 := SZ7.out; have s8 := SZ8.out; have s9 := SZ9.out; have s10 := SZ10.out; have s11 := SZ11.out; have s12 := SZ12.out; have s13 := SZ13.out; have s14 := SZ14.out; have s15 := SZ15.out; have s16 := SZ16.out; have s17 := SZ17.out; have s18 := SZ18.out; simp only; omega))
  have S0_18 : Hid (w18.cell? ⟨w9.heap.size, 0, none⟩ = some (.slice YA0 D.length Yc0)) := Lib.hid (Mv18.out.cell S0_17.out (by have s0 := SZ0.out; have s1 := SZ1.out; have s2 := SZ2.out; have s3 := SZ3.out; have s4 := SZ4.out; have s5 := SZ5.out; have s6 := SZ6.out; have s7 := SZ7.out; have s8 := SZ8.out; have s9 := SZ9.out; have s10 := SZ10.out; have s11 := SZ11.out; have s12 := SZ12.out; have s13 := SZ13.out; have s14 := SZ14.out; have s15 := SZ15.out; have s16 := SZ16.out; have s17 := SZ17.out; have s18 := SZ18.out; simp only; omega))
  have S1_18 : Hid (w18.cell? ⟨w9.heap.size, 1, none⟩ = some (.slice YA1 M.length Yc1)) := Lib.hid (Mv18.out.cell S1_17.out (by have s0 := SZ0.out; have s1 := SZ1.out; have s2 := SZ2.out; have s3 := SZ3.out; have s4 := SZ4.out; have s5 := SZ5.out; have s6 := SZ6.out; have s7 := SZ7.out; have s8 := SZ8.out; have s9 := SZ9.out; have s10 := SZ10.out; have s11 := SZ11.out; have s12 := SZ12.out; have s13 := SZ13.out; have s14 := SZ14.out; have s15 := SZ15.out; have s16 := SZ16.out; have s17 := SZ17.out; have s18 := SZ18.out; simp only; omega))
  have HB18 : Hid (Below w.heap.size w w18) := Lib.hid (Mv18.out.below HB17.out (by have s0 := SZ0.out; have s1 := SZ1.out; have s2 := SZ2.out; have s3 := SZ3.out; have s4 := SZ4.out; have s5 := SZ5.out; have s6 := SZ6.out; have s7 := SZ7.out; have s8 := SZ8.out; have s9 := SZ9.out; have s10 := SZ10.out; have s11 := SZ11.out; have s12 := SZ12.out; have s13 := SZ13.out; have s14 := SZ14.out; have s15 := SZ15.out; have s16 := SZ16.out; have s17 := SZ17.out; have s18 := SZ18.out; omega) HB17.out.size)
  have OY0_18 : Hid (OI w18 w8.heap.size (.slice YA0 D.length Yc0) (marks 1 D.length)) := Lib.hid oa; have OY1_18 : Hid (OI w18 w8.heap.size (.slice YA1 M.length Yc1) (marks (1 + D.length) M.length)) := Lib.hid ob; clear oa ob
  have neg2 : ¬ (((1 + D.length + M.length : Nat) : Int) < 0) := by omega
  have qP00 := P00_18.out
  have qP01 := P01_18.out
  have qQ0 := Q0_18.out
  have qQ1 := Q1_18.out
  have qS0 := S0_18.out
  have qS1 := S1_18.out
  go_wp2_with fail
  clear qP00 qP01 qQ0 qQ1 qS0 qS1
  refine (heldSpace_any 1 OY0_18.out OY1_18.out (by have h1 := LD.out; have h2 := LM.out; omega)).mono ?_
  rintro e w19 ⟨rfl, g⟩
  have G19 := Lib.hid g; have SZ19 : Hid (w18.heap.size ≤ w19.heap.size) := Lib.hid g.size; clear g
  have P00_19 : Hid (w19.cell? ⟨w.heap.size, 0, none⟩ = some (.slice A0_0 xs0_0.length c0_0)) := Lib.hid (oldcell G19.out P00_18.out)
  have P01_19 : Hid (w19.cell? ⟨w.heap.size, 1, none⟩ = some (.slice A0_1 xs0_1.length c0_1)) := Lib.hid (oldcell G19.out P01_18.out)
  have OZ0_19 : Hid (OI w19 w3.heap.size (.slice ZA0 D.length Zc0) D) := Lib.hid (OZ0_18.out.bel G19.out)
  have OZ1_19 : Hid (OI w19 w3.heap.size (.slice ZA1 M.length Zc1) M) := Lib.hid (OZ1_18.out.bel G19.out)
  have Q0_19 : Hid (w19.cell? ⟨w4.heap.size, 0, none⟩ = some (.slice ZA0 D.length Zc0)) := Lib.hid (oldcell G19.out Q0_18.out)
  have Q1_19 : Hid (w19.cell? ⟨w4.heap.size, 1, none⟩ = some (.slice ZA1 M.length Zc1)) := Lib.hid (oldcell G19.out Q1_18.out)
  have S0_19 : Hid (w19.cell? ⟨w9.heap.size, 0, none⟩ = some (.slice YA0 D.length Yc0)) := Lib.hid (oldcell G19.out S0_18.out)
  have S1_19 : Hid (w19.cell? ⟨w9.heap.size, 1, none⟩ = some (.slice YA1 M.length Yc1)) := Lib.hid (oldcell G19.out S1_18.out)
  have OY0_19 : Hid (OI w19 w8.heap.size (.slice YA0 D.length Yc0) (marks 1 D.length)) := Lib.hid (OY0_18.out.bel G19.out)
  have OY1_19 : Hid (OI w19 w8.heap.size (.slice YA1 M.length Yc1) (marks (1 + D.length) M.length)) := Lib.hid (OY1_18.out.bel G19.out)
  have HB19 : Hid (Below w.heap.size w w19) := Lib.hid (HB18.out.trans (G19.out.mono HB18.out.size))
  have qP00 := P00_19.out
  have qP01 := P01_19.out
  have qQ0 := Q0_19.out
  have qQ1 := Q1_19.out
  have qS0 := S0_19.out
  have qS1 := S1_19.out
  go_wp2_with fail
  clear qP00 qP01 qQ0 qQ1 qS0 qS1
  refine (toSpace_oi (H0_0.out.at (Nat.le_refl _) HB19.out) (H0_1.out.at (Nat.le_refl _) HB19.out) (Nat.le_refl _) SM0.out).mono ?_
  rintro e w20 ⟨EA0, EA1, rfl, oa, ob, hap, g⟩
  have G20 := Lib.hid g; have SZ20 : Hid (w19.heap.size ≤ w20.heap.size) := Lib.hid g.size; clear g
  have P00_20 : Hid (w20.cell? ⟨w.heap.size, 0, none⟩ = some (.slice A0_0 xs0_0.length c0_0)) := Lib.hid (oldcell G20.out P00_19.out)
  have P01_20 : Hid (w20.cell? ⟨w.heap.size, 1, none⟩ = some (.slice A0_1 xs0_1.length c0_1)) := Lib.hid (oldcell G20.out P01_19.out)
  have OZ0_20 : Hid (OI w20 w3.heap.size (.slice ZA0 D.length Zc0) D) := Lib.hid (OZ0_19.out.bel G20.out)
  have OZ1_20 : Hid (OI w20 w3.heap.size (.slice ZA1 M.length Zc1) M) := Lib.hid (OZ1_19.out.bel G20.out)
  have Q0_20 : Hid (w20.cell? ⟨w4.heap.size, 0, none⟩ = some (.slice ZA0 D.length Zc0)) := Lib.hid (oldcell G20.out Q0_19.out)
  have Q1_20 : Hid (w20.cell? ⟨w4.heap.size, 1, none⟩ = some (.slice ZA1 M.length Zc1)) := Lib.hid (oldcell G20.out Q1_19.out)
  have S0_20 : Hid (w20.cell? ⟨w9.heap.size, 0, none⟩ = some (.slice YA0 D.length Yc0)) := Lib.hid (oldcell G20.out S0_19.out)
  have S1_20 : Hid (w20.cell? ⟨w9.heap.size, 1, none⟩ = some (.slice YA1 M.length Yc1)) := Lib.hid (oldcell G20.out S1_19.out)
  have OY0_20 : Hid (OI w20 w8.heap.size (.slice YA0 D.length Yc0) (marks 1 D.length)) := Lib.hid (OY0_19.out.bel G20.out)
  have OY1_20 : Hid (OI w20 w8.heap.size (.slice YA1 M.length Yc1) (marks (1 + D.length) M.length)) := Lib.hid (OY1_19.out.bel G20.out)
  have HB20 : Hid (Below w.heap.size w w20) := Lib.hid (HB19.out.trans (G20.out.mono HB19.out.size))
  have OE0_20 : Hid (OI w20 w19.heap.size (.slice EA0 xs0_0.length xs0_0.length) xs0_0) := Lib.hid oa; clear oa
  have OE1_20 : Hid (OI w20 w19.heap.size (.slice EA1 xs0_1.length xs0_1.length) xs0_1) := Lib.hid ob; clear ob
  have XE := Lib.hid hap; clear hap
  have IE0 := Lib.hid OE0_20.out.wi; have IE1 := Lib.hid OE1_20.out.wi
  have qP00 := P00_20.out
  have qP01 := P01_20.out
  have qQ0 := Q0_20.out
  have qQ1 := Q1_20.out
  have qS0 := S0_20.out
  have qS1 := S1_20.out
  go_wp2_with fail
  clear qP00 qP01 qQ0 qQ1 qS0 qS1
  refine (toI_oi (H1.out.at (Nat.le_refl _) HB20.out) (Nat.le_refl _) Sd.out).mono ?_
  rintro e w21 ⟨FA, rfl, oa, g⟩
  have G21 := Lib.hid g; have SZ21 : Hid (w20.heap.size ≤ w21.heap.size) := Lib.hid g.size; clear g
  have P00_21 : Hid (w21.cell? ⟨w.heap.size, 0, none⟩ = some (.slice A0_0 xs0_0.length c0_0)) := Lib.hid (oldcell G21.out P00_20.out)
  have P01_21 : Hid (w21.cell? ⟨w.heap.size, 1, none⟩ = some (.slice A0_1 xs0_1.length c0_1)) := Lib.hid (oldcell G21.out P01_20.out)
  have OZ0_21 : Hid (OI w21 w3.heap.size (.slice ZA0 D.length Zc0) D) := Lib.hid (OZ0_20.out.bel G21.out)
  have OZ1_21 : Hid (OI w21 w3.heap.size (.slice ZA1 M.length Zc1) M) := Lib.hid (OZ1_20.out.bel G21.out)
  have Q0_21 : Hid (w21.cell? ⟨w4.heap.size, 0, none⟩ = some (.slice ZA0 D.length Zc0)) := Lib.hid (oldcell G21.out Q0_20.out)
  have Q1_21 : Hid (w21.cell? ⟨w4.heap.size, 1, none⟩ = some (.slice ZA1 M.length Zc1)) := Lib.hid (oldcell G21.out Q1_20.out)
  have S0_21 : Hid (w21.cell? ⟨w9.heap.size, 0, none⟩ = some (.slice YA0 D.length Yc0)) := Lib.hid (oldcell G21.out S0_20.out)
  have S1_21 : Hid (w21.cell? ⟨w9.heap.size, 1, none⟩ = some (.slice YA1 M.length Yc1)) := Lib.hid (oldcell G21.out S1_20.out)
  have OY0_21 : Hid (OI w21 w8.heap.size (.slice YA0 D.length Yc0) (marks 1 D.length)) := Lib.hid (OY0_20.out.bel G21.out)
  have OY1_21 : Hid (OI w21 w8.heap.size (.slice YA1 M.length Yc1) (marks (1 + D.length) M.length)) := Lib.hid (OY1_20.out.bel G21.out)
  have OE0_21 : Hid (OI w21 w19.heap.size (.slice EA0 xs0_0.length xs0_0.length) xs0_0) := Lib.hid (OE0_20.out.bel G21.out)
  have OE1_21 : Hid (OI w21 w19.heap.size (.slice EA1 xs0_1.length xs0_1.length) xs0_1) := Lib.hid (OE1_20.out.bel G21.out)
  have HB21 : Hid (Below w.heap.size w w21) := Lib.hid (HB20.out.trans (G21.out.mono HB20.out.size))
  have OF_21 : Hid (OI w21 w20.heap.size (.slice FA xs1.length xs1.length) xs1) := Lib.hid oa; clear oa
  have IF := Lib.hid OF_21.out.wi
  have qP00 := P00_21.out
  have qP01 := P01_21.out
  have qQ0 := Q0_21.out
  have qQ1 := Q1_21.out
  have qS0 := S0_21.out
  have qS1 := S1_21.out
  go_wp2_with fail
  clear qP00 qP01 qQ0 qQ1 qS0 qS1
  refine (pResize_is HD.out HM.out HE.out (OE0_21.out.ri H0_0.out.inI) (OE1_21.out.ri H0_1.out.inI) (OF_21.out.ri H1.out.inI) (Nat.le_refl _) SM0.out.2 Sd.out).mono ?_
  rintro e w22 ⟨CA0, CA1, Cc0, Cc1, rfl, oa, ob, hap, g⟩
  have G22 := Lib.hid g; have SZ22 : Hid (w21.heap.size ≤ w22.heap.size) := Lib.hid g.size; clear g
  have P00_22 : Hid (w22.cell? ⟨w.heap.size, 0, none⟩ = some (.slice A0_0 xs0_0.length c0_0)) := Lib.hid (oldcell G22.out P00_21.out)
  have P01_22 : Hid (w22.cell? ⟨w.heap.size, 1, none⟩ = some (.slice A0_1 xs0_1.length c0_1)) := Lib.hid (oldcell G22.out P01_21.out)
  have OZ0_22 : Hid (OI w22 w3.heap.size (.slice ZA0 D.length Zc0) D) := Lib.hid (OZ0_21.out.bel G22.out)
  have OZ1_22 : Hid (OI w22 w3.heap.size (.slice ZA1 M.length Zc1) M) := Lib.hid (OZ1_21.out.bel G22.out)
  have Q0_22 : Hid (w22.cell? ⟨w4.heap.size, 0, none⟩ = some (.slice ZA0 D.length Zc0)) := Lib.hid (oldcell G22.out Q0_21.out)
  have Q1_22 : Hid (w22.cell? ⟨w4.heap.size, 1, none⟩ = some (.slice ZA1 M.length Zc1)) := Lib.hid (oldcell G22.out Q1_21.out)
  have S0_22 : Hid (w22.cell? ⟨w9.heap.size, 0, none⟩ = some (.slice YA0 D.length Yc0)) := Lib.hid (oldcell G22.out S0_21.out)
  have S1_22 : Hid (w22.cell? ⟨w9.heap.size, 1, none⟩ = some (.slice YA1 M.length Yc1)) := Lib.hid (oldcell G22.out S1_21.out)
  have OY0_22 : Hid (OI w22 w8.heap.size (.slice YA0 D.length Yc0) (marks 1 D.length)) := Lib.hid (OY0_21.out.bel G22.out)
  have OY1_22 : Hid (OI w22 w8.heap.size (.slice YA1 M.length Yc1) (marks (1 + D.length) M.length)) := Lib.hid (OY1_21.out.bel G22.out)
  have OE0_22 : Hid (OI w22 w19.heap.size (.slice EA0 xs0_0.length xs0_0.length) xs0_0) := Lib.hid (OE0_21.out.bel G22.out)
  have OE1_22 : Hid (OI w22 w19.heap.size (.slice EA1 xs0_1.length xs0_1.length) xs0_1) := Lib.hid (OE1_21.out.bel G22.out)
  have OF_22 : Hid (OI w22 w20.heap.size (.slice FA xs1.length xs1.length) xs1) := Lib.hid (OF_21.out.bel G22.out)
  have HB22 : Hid (Below w.heap.size w w22) := Lib.hid (HB21.out.trans (G22.out.mono HB21.out.size))
  have OC0_22 : Hid (OI w22 w21.heap.size (.slice CA0 D.length Cc0) D) := Lib.hid oa; clear oa
  have OC1_22 : Hid (OI w22 w21.heap.size (.slice CA1 M.length Cc1) M) := Lib.hid ob; clear ob
  have XC := Lib.hid hap; clear hap
  have IC0 := Lib.hid OC0_22.out.wi; have IC1 := Lib.hid OC1_22.out.wi
  have G23 : Hid (Below w22.heap.size w22 (w22.alloc (.cells #[.slice CA0 D.length Cc0, .slice CA1 M.length Cc1] 35))) := Lib.hid ((Below.refl _ _).alloc (Nat.le_refl _) _)
  have SZ23 : Hid (w22.heap.size + 1 ≤ (w22.alloc (.cells #[.slice CA0 D.length Cc0, .slice CA1 M.length Cc1] 35)).heap.size) := Lib.hid (by simp)
  have P00_23 : Hid ((w22.alloc (.cells #[.slice CA0 D.length Cc0, .slice CA1 M.length Cc1] 35)).cell? ⟨w.heap.size, 0, none⟩ = some (.slice A0_0 xs0_0.length c0_0)) := Lib.hid (oldcell G23.out P00_22.out)
  have P01_23 : Hid ((w22.alloc (.cells #[.slice CA0 D.length Cc0, .slice CA1 M.length Cc1] 35)).cell? ⟨w.heap.size, 1, none⟩ = some (.slice A0_1 xs0_1.length c0_1)) := Lib.hid (oldcell G23.out P01_22.out)
  have OZ0_23 : Hid (OI (w22.alloc (.cells #[.slice CA0 D.length Cc0, .slice CA1 M.length Cc1] 35)) w3.heap.size (.slice ZA0 D.length Zc0) D) := Lib.hid (OZ0_22.out.bel G23.out)
  have OZ1_23 : Hid (OI (w22.alloc (.cells #[.slice CA0 D.length Cc0, .slice CA1 M.length Cc1] 35)) w3.heap.size (.slice ZA1 M.length Zc1) M) := Lib.hid (OZ1_22.out.bel G23.out)
  have Q0_23 : Hid ((w22.alloc (.cells #[.slice CA0 D.length Cc0, .slice CA1 M.length Cc1] 35)).cell? ⟨w4.heap.size, 0, none⟩ = some (.slice ZA0 D.length Zc0)) := Lib.hid (oldcell G23.out Q0_22.out)
  have Q1_23 : Hid ((w22.alloc (.cells #[.slice CA0 D.length Cc0, .slice CA1 M.length Cc1] 35)).cell? ⟨w4.heap.size, 1, none⟩ = some (.slice ZA1 M.length Zc1)) := Lib.hid (oldcell G23.out Q1_22.out)
  have S0_23 : Hid ((w22.alloc (.cells #[.slice CA0 D.length Cc0, .slice CA1 M.length Cc1] 35)).cell? ⟨w9.heap.size, 0, none⟩ = some (.slice YA0 D.length Yc0)) := Lib.hid (oldcell G23.out S0_22.out)
  have S1_23 : Hid ((w22.alloc (.cells #[.slice CA0 D.length Cc0, .slice CA1 M.length Cc1] 35)).cell? ⟨w9.heap.size, 1, none⟩ = some (.slice YA1 M.length Yc1)) := Lib.hid (oldcell G23.out S1_22.out)
  have OY0_23 : Hid (OI (w22.alloc (.cells #[.slice CA0 D.length Cc0, .slice CA1 M.length Cc1] 35)) w8.heap.size (.slice YA0 D.length Yc0) (marks 1 D.length)) := Lib.hid (OY0_22.out.bel G23.out)
  have OY1_23 : Hid (OI (w22.alloc (.cells #[.slice CA0 D.length Cc0, .slice CA1 M.length Cc1] 35)) w8.heap.size (.slice YA1 M.length Yc1) (marks (1 + D.length) M.length)) := Lib.hid (OY1_22.out.bel G23.out)
  have OC0_23 : Hid (OI (w22.alloc (.cells #[.slice CA0 D.length Cc0, .slice CA1 M.length Cc1] 35)) w21.heap.size (.slice CA0 D.length Cc0) D) := Lib.hid (OC0_22.out.bel G23.out)
  have OC1_23 : Hid (OI (w22.alloc (.cells #[.slice CA0 D.length Cc0, .slice CA1 M.length Cc1] 35)) w21.heap.size (.slice CA1 M.length Cc1) M) := Lib.hid (OC1_22.out.bel G23.out)
  have HB23 : Hid (Below w.heap.size w (w22.alloc (.cells #[.slice CA0 D.length Cc0, .slice CA1 M.length Cc1] 35))) := Lib.hid (HB22.out.trans (G23.out.mono HB22.out.size))
  have J0_23 : Hid ((w22.alloc (.cells #[.slice CA0 D.length Cc0, .slice CA1 M.length Cc1] 35)).cell? ⟨w22.heap.size, 0, none⟩ = some (.slice CA0 D.length Cc0)) := Lib.hid (by rw [cell_of_row _ _ _ _ _ _ (heap_alloc_new w22 _)]; rfl)
  have J1_23 : Hid ((w22.alloc (.cells #[.slice CA0 D.length Cc0, .slice CA1 M.length Cc1] 35)).cell? ⟨w22.heap.size, 1, none⟩ = some (.slice CA1 M.length Cc1)) := Lib.hid (by rw [cell_of_row _ _ _ _ _ _ (heap_alloc_new w22 _)]; rfl)
  have qP00 := P00_23.out
  have qP01 := P01_23.out
  have qQ0 := Q0_23.out
  have qQ1 := Q1_23.out
  have qS0 := S0_23.out
  have qS1 := S1_23.out
  have qJ0 := J0_23.out
  have qJ1 := J1_23.out
  go_wp2_with fail
  clear qP00 qP01 qQ0 qQ1 qS0 qS1 qJ0 qJ1
  generalize (w22.alloc (.cells #[.slice CA0 D.length Cc0, .slice CA1 M.length Cc1] 35)) = w23 at *
  refine (eqSpace_any (OC0_23.out.ri ID.out) (OC1_23.out.ri IM.out) (OZ0_23.out.ri ID.out) (OZ1_23.out.ri IM.out) (Nat.le_refl _)).mono ?_
  rintro e w24 ⟨rfl, g⟩
  have G24 := Lib.hid g; have SZ24 : Hid (w23.heap.size ≤ w24.heap.size) := Lib.hid g.size; clear g
  have P00_24 : Hid (w24.cell? ⟨w.heap.size, 0, none⟩ = some (.slice A0_0 xs0_0.length c0_0)) := Lib.hid (oldcell G24.out P00_23.out)
  have P01_24 : Hid (w24.cell? ⟨w.heap.size, 1, none⟩ = some (.slice A0_1 xs0_1.length c0_1)) := Lib.hid (oldcell G24.out P01_23.out)
  have OZ0_24 : Hid (OI w24 w3.heap.size (.slice ZA0 D.length Zc0) D) := Lib.hid (OZ0_23.out.bel G24.out)
  have OZ1_24 : Hid (OI w24 w3.heap.size (.slice ZA1 M.length Zc1) M) := Lib.hid (OZ1_23.out.bel G24.out)
  have Q0_24 : Hid (w24.cell? ⟨w4.heap.size, 0, none⟩ = some (.slice ZA0 D.length Zc0)) := Lib.hid (oldcell G24.out Q0_23.out)
  have Q1_24 : Hid (w24.cell? ⟨w4.heap.size, 1, none⟩ = some (.slice ZA1 M.length Zc1)) := Lib.hid (oldcell G24.out Q1_23.out)
  have S0_24 : Hid (w24.cell? ⟨w9.heap.size, 0, none⟩ = some (.slice YA0 D.length Yc0)) := Lib.hid (oldcell G24.out S0_23.out)
  have S1_24 : Hid (w24.cell? ⟨w9.heap.size, 1, none⟩ = some (.slice YA1 M.length Yc1)) := Lib.hid (oldcell G24.out S1_23.out)
  have OY0_24 : Hid (OI w24 w8.heap.size (.slice YA0 D.length Yc0) (marks 1 D.length)) := Lib.hid (OY0_23.out.bel G24.out)
  have OY1_24 : Hid (OI w24 w8.heap.size (.slice YA1 M.length Yc1) (marks (1 + D.length) M.length)) := Lib.hid (OY1_23.out.bel G24.out)
  have OC0_24 : Hid (OI w24 w21.heap.size (.slice CA0 D.length Cc0) D) := Lib.hid (OC0_23.out.bel G24.out)
  have OC1_24 : Hid (OI w24 w21.heap.size (.slice CA1 M.length Cc1) M) := Lib.hid (OC1_23.out.bel G24.out)
  have J0_24 : Hid (w24.cell? ⟨w22.heap.size, 0, none⟩ = some (.slice CA0 D.length Cc0)) := Lib.hid (oldcell G24.out J0_23.out)
  have J1_24 : Hid (w24.cell? ⟨w22.heap.size, 1, none⟩ = some (.slice CA1 M.length Cc1)) := Lib.hid (oldcell G24.out J1_23.out)
  have HB24 : Hid (Below w.heap.size w w24) := Lib.hid (HB23.out.trans (G24.out.mono HB23.out.size))
  have qP00 := P00_24.out
  have qP01 := P01_24.out
  have qQ0 := Q0_24.out
  have qQ1 := Q1_24.out
  have qS0 := S0_24.out
  have qS1 := S1_24.out
  have qJ0 := J0_24.out
  have qJ1 := J1_24.out
  go_wp2_with fail
  clear qP00 qP01 qQ0 qQ1 qS0 qS1 qJ0 qJ1
  refine (heldSpace_any 1 OY0_24.out OY1_24.out (by have h1 := LD.out; have h2 := LM.out; omega)).mono ?_
  rintro e w25 ⟨rfl, g⟩
  have G25 := Lib.hid g; have SZ25 : Hid (w24.heap.size ≤ w25.heap.size) := Lib.hid g.size; clear g
  have P00_25 : Hid (w25.cell? ⟨w.heap.size, 0, none⟩ = some (.slice A0_0 xs0_0.length c0_0)) := Lib.hid (oldcell G25.out P00_24.out)
  have P01_25 : Hid (w25.cell? ⟨w.heap.size, 1, none⟩ = some (.slice A0_1 xs0_1.length c0_1)) := Lib.hid (oldcell G25.out P01_24.out)
  have OZ0_25 : Hid (OI w25 w3.heap.size (.slice ZA0 D.length Zc0) D) := Lib.hid (OZ0_24.out.bel G25.out)
  have OZ1_25 : Hid (OI w25 w3.heap.size (.slice ZA1 M.length Zc1) M) := Lib.hid (OZ1_24.out.bel G25.out)
  have Q0_25 : Hid (w25.cell? ⟨w4.heap.size, 0, none⟩ = some (.slice ZA0 D.length Zc0)) := Lib.hid (oldcell G25.out Q0_24.out)
  have Q1_25 : Hid (w25.cell? ⟨w4.heap.size, 1, none⟩ = some (.slice ZA1 M.length Zc1)) := Lib.hid (oldcell G25.out Q1_24.out)
  have S0_25 : Hid (w25.cell? ⟨w9.heap.size, 0, none⟩ = some (.slice YA0 D.length Yc0)) := Lib.hid (oldcell G25.out S0_24.out)
  have S1_25 : Hid (w25.cell? ⟨w9.heap.size, 1, none⟩ = some (.slice YA1 M.length Yc1)) := Lib.hid (oldcell G25.out S1_24.out)
  have OY0_25 : Hid (OI w25 w8.heap.size (.slice YA0 D.length Yc0) (marks 1 D.length)) := Lib.hid (OY0_24.out.bel G25.out)
  have OY1_25 : Hid (OI w25 w8.heap.size (.slice YA1 M.length Yc1) (marks (1 + D.length) M.length)) := Lib.hid (OY1_24.out.bel G25.out)
  have OC0_25 : Hid (OI w25 w21.heap.size (.slice CA0 D.length Cc0) D) := Lib.hid (OC0_24.out.bel G25.out)
  have OC1_25 : Hid (OI w25 w21.heap.size (.slice CA1 M.length Cc1) M) := Lib.hid (OC1_24.out.bel G25.out)
  have J0_25 : Hid (w25.cell? ⟨w22.heap.size, 0, none⟩ = some (.slice CA0 D.length Cc0)) := Lib.hid (oldcell G25.out J0_24.out)
  have J1_25 : Hid (w25.cell? ⟨w22.heap.size, 1, none⟩ = some (.slice CA1 M.length Cc1)) := Lib.hid (oldcell G25.out J1_24.out)
  have HB25 : Hid (Below w.heap.size w w25) := Lib.hid (HB24.out.trans (G25.out.mono HB24.out.size))
  have qP00 := P00_25.out
  have qP01 := P01_25.out
  have qQ0 := Q0_25.out
  have qQ1 := Q1_25.out
  have qS0 := S0_25.out
  have qS1 := S1_25.out
  have qJ0 := J0_25.out
  have qJ1 := J1_25.out
  go_wp2_with fail
  clear qP00 qP01 qQ0 qQ1 qS0 qS1 qJ0 qJ1
  go_ret
  exact ⟨rfl, HB25.out⟩
theorem own : ownKnob Try.prog.godebug = none := by kernel_rfl
theorem laidOut : laidOutB Try.prog = true := by kernel_rfl
set_option maxRecDepth 100000 in
theorem lifted (os : Os) (started : os.Started) (H : Type) (enc : TypeId × Value → H) :
    ReturnsInHanded {} Try.checked os 11 .any (Rows.fnExactResizeSpaceSpec.pre6 enc Try.prog Try.f11 Rows.fnExactResizeSpaceRow.domain false) (Rows.fnExactResizeSpaceSpec.post enc Try.prog Try.f11 false true false false) := by
  refine returnsInHanded_of_change (C := Try.checked) own started (by kernel_rfl) Try.func11
    (ChangeSpec.witness6 (enc := enc) (C := Try.checked) false ⟨#[], #[.agg #[.slice none 0 0, .slice none 0 0], .slice none 0 0], []⟩ 8 (by kernel_rfl) (by kernel_rfl) (by kernel_rfl) (by kernel_rfl)) ?_
  intro W base args ds gs before hval0 hW hcnd _
  have hval : ∀ (j : Nat) t v, Try.f11.params[j]? = some t → args[j]? = some v → Value.okWide Try.prog W .any base t v := hval0
  have hW' := hW
  obtain ⟨p, q, hA0, hV, rfl, hfz, hnd⟩ := hW
  have hA : DataW.TrodAll enc Try.prog W 0 (fun _ => true) true Try.f11.params.toList args.toList ds p := hA0
  rw [Try.params11] at hA hval
  obtain ⟨v0, vs0, d0, ds0, p0, q0, hargs, rfl, rfl, h0, r0⟩ := trodAll_cons hA
  obtain ⟨v1, vs1, d1, ds1, p1, q1, rfl, rfl, rfl, h1, r1⟩ := trodAll_cons r0
  obtain ⟨rfl, rfl, rfl⟩ := trodAll_nil r1
  obtain rfl : args = #[v0, v1] := by cases args; simp_all
  obtain ⟨rfl, rfl⟩ := trodVars_none hV
  have k0 := h0
  have lt0 : ∀ x ∈ p0, x.block < W.heap.size := by obtain ⟨m, hm⟩ := k0; exact DataW.trod_lt m _ _ _ hm
  obtain ⟨v0_0, xs0_0, v0_1, xs0_1, rfl, g0_0, g0_1⟩ := open_space (hval 0 32 v0 rfl rfl) h0
  have k1 := h1
  have lt1 : ∀ x ∈ p1, x.block < W.heap.size := by obtain ⟨m, hm⟩ := k1; exact DataW.trod_lt m _ _ _ hm
  obtain ⟨xs1, g1⟩ := open_i (hval 1 22 v1 rfl rfl) h1
  clear hA0 hval0
  refine (walk W _ _ _ _ _ _ g0_0 g0_1 g1).mono fun e W' ⟨he, bel⟩ => ?_
  subst he
  exact ⟨_, rfl, _, _, _, [], _, [], hW', (trodAll_cons_mk (shut_bool Try.underlying4 _) trodAll_mk0), (trodAll_cons_mk (Below.trod laidOut (by kernel_rfl) (of_decide_eq_true (by kernel_rfl)) k0 bel lt0) (trodAll_cons_mk (Below.trod laidOut (by kernel_rfl) (of_decide_eq_true (by kernel_rfl)) k1 bel lt1) trodAll_mk0)), rfl, bel.frame _, fun h => by cases h⟩
theorem over : Rows.fnExactResizeSpaceRow.holds Try.pinned (OpenSpec.ofChange Rows.fnExactResizeSpaceSpec) :=
  OpenClaim.holds_of_wide 11 Try.f11 rfl rfl rfl rfl rfl rfl rfl ⟨rfl, rfl, rfl, rfl, rfl⟩ rfl rfl rfl rfl rfl (by kernel_rfl) Try.func11 (by kernel_rfl)
    (of_decide_eq_true (by kernel_rfl)) (by unfold Func.isWrapper; rw [if_neg (of_decide_eq_false (by kernel_rfl))]; exact ⟨rfl, rfl⟩)
    (fun os started H enc _ => lifted os started H enc)
theorem proved : Rows.FnExactResizeSpaceSaid := over
end Go.Proofs.Ytmnmjepppghnlaa.fnExactResizeSpace
