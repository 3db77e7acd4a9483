/- The statement of the law FnExactChunkBox: whatever the input, the program's function answers as the model's, and the input reads as it did. Its conditions are the given statement's own; nothing is added. -/
import Derived.Test.YtmghbgnalkkppaaJf
import Derived.Test.YtmghbgnalkkppaaFrmI
import Derived.Test.YtmghbgnalkkppaaMrS
import Derived.Test.YtmghbgnalkkppaaBx
import Derived.Test.YtmghbgnalkkppaaMrB
import Derived.Test.YtmghbgnalkkppaaBoI
import Derived.ProofKit
import Derived.OpenShut
import Derived.ShutString
import Derived.ChangeOld
import Derived.Below
import Derived.Deep.DeepFit
import Derived.Deep.WholeRow
import Derived.Deep.RegionHeld3
namespace Go.Proofs.Ytmghbgnalkkppaa.fnExactChunkBox
open Go.ChangeShapes Go.WideShapes Go.ChangeAt Go.RowKit
open Go.ChangeMaps (open_string shut_string)
set_option linter.unusedVariables false
theorem toI_oi {B : Nat} {w : World} {v : Value} {xs : List Int} (h : Ri B w v xs) (hB : B ≤ w.heap.size) (hs : xs.length ≤ 1048576) :
    Calls Try.prog 12 #[v] w fun e w' => ∃ A1 : Option Addr, e = .returned (.slice A1 xs.length xs.length) ∧ OI w' w.heap.size (.slice A1 xs.length xs.length) xs ∧ Below w.heap.size w w' :=
  (toI_any h hB hs).mono fun e w' ⟨he, r, _, g⟩ => ⟨_, he, OI.of_row r (Nat.le_refl _) (by unfold maxLen; omega), g⟩
theorem sAns {B : Nat} {w : World} {v0 v1 : Value} {xs0 xs1 D M : List Int} {b : Bool} {a2 : Int} (hD : cbL xs0 xs1 a2 = D) (hM : cbH xs0 xs1 a2 = M) (hb : hasE xs0 xs1 a2 = b) (h0 : Ri B w v0 xs0) (h1 : Ri B w v1 xs1) (hB : B ≤ w.heap.size) : Calls Try.prog 25 #[v0, v1, .int .i64 a2] w (AnsAt D M (.bool b) w) := by
  subst hD hM hb; exact specChunkBox_any a2 h0 h1 hB
theorem pAns {B : Nat} {w : World} {v0 v1 : Value} {xs0 xs1 D M : List Int} {b : Bool} {a2 : Int} (hD : cbL xs0 xs1 a2 = D) (hM : cbH xs0 xs1 a2 = M) (hb : hasE xs0 xs1 a2 = b) (h0 : Ri B w v0 xs0) (h1 : Ri B w v1 xs1) (hB : B ≤ w.heap.size) : Calls Try.prog 26 #[v0, v1, .int .i64 a2] w (AnsAt D M (.bool b) w) := by
  subst hD hM hb; exact implChunkBox_any a2 h0 h1 hB
set_option maxHeartbeats 8000000 in
set_option maxRecDepth 100000 in
theorem walk (w : World) (v0 : Value) (xs0 : List Int) (v1 : Value) (xs1 : List Int) (a2 : Int) (h0 : Ri w.heap.size w v0 xs0) (h1 : Ri w.heap.size w v1 xs1) (h2 : (Lit.int .i64 a2).wf = true) :
    Calls Try.prog 8 #[v0, v1, .int .i64 a2] w (GivesB (.bool true) w) := by
  have H0 := Lib.hid h0
  obtain ⟨A0, c0, rfl, _, hc0, _⟩ := h0
  unfold maxLen at hc0
  have H1 := Lib.hid h1
  obtain ⟨A1, c1, rfl, _, hc1, _⟩ := h1
  unfold maxLen at hc1
  clear h2
  by_cases big0 : 1048576 < xs0.length
  · have big0' : decide ((1048576 : Int) < (xs0.length : Int)) = true := decide_eq_true (by omega)
    go_enter Try.func8, Try.ntmps8
    go_wp2_with fail
    go_ret
    exact ⟨rfl, Below.refl _ _⟩
  have small0 : decide ((1048576 : Int) < (xs0.length : Int)) = false := decide_eq_false (by omega)
  have Sd0 : Hid (xs0.length ≤ 1048576) := Lib.hid (by omega)
  by_cases big1 : 1048576 < xs1.length
  · have big1' : decide ((1048576 : Int) < (xs1.length : Int)) = true := decide_eq_true (by omega)
    go_enter Try.func8, Try.ntmps8
    go_wp2_with fail
    go_ret
    exact ⟨rfl, Below.refl _ _⟩
  have small1 : decide ((1048576 : Int) < (xs1.length : Int)) = false := decide_eq_false (by omega)
  have Sd1 : Hid (xs1.length ≤ 1048576) := Lib.hid (by omega)
  obtain ⟨D, hD⟩ : ∃ D, cbL xs0 xs1 a2 = D := ⟨_, rfl⟩
  obtain ⟨M, hM⟩ : ∃ D, cbH xs0 xs1 a2 = D := ⟨_, rfl⟩
  obtain ⟨ok, hE⟩ : ∃ b, hasE xs0 xs1 a2 = b := ⟨_, rfl⟩
  have HD := Lib.hid hD; have HM := Lib.hid hM; have HE := Lib.hid hE
  have ID : Hid (∀ x ∈ D, InI x) := Lib.hid (hD ▸ (cb_bd xs0 xs1 a2).1)
  have IM : Hid (∀ x ∈ M, InI x) := Lib.hid (hM ▸ (cb_bd xs0 xs1 a2).2.1)
  have LD : Hid (D.length ≤ 1048576) := Lib.hid (hD ▸ (cb_bd xs0 xs1 a2).2.2.1)
  have LM : Hid (M.length ≤ 1048576) := Lib.hid (hM ▸ (cb_bd xs0 xs1 a2).2.2.2)
  clear hD hM hE
  have HB0 : Hid (Below w.heap.size w w) := Lib.hid (Below.refl _ _)
  have SZ0 : Hid (w.heap.size ≤ w.heap.size) := Lib.hid (Nat.le_refl _)
  go_enter Try.func8, Try.ntmps8
  go_wp2_with fail
  refine (toI_oi (H0.out.at (Nat.le_refl _) HB0.out) (Nat.le_refl _) Sd0.out).mono ?_
  rintro e w1 ⟨TA0, rfl, oa, g⟩
  have G1 := Lib.hid g; have SZ1 : Hid (w.heap.size ≤ w1.heap.size) := Lib.hid g.size; clear g
  have HB1 : Hid (Below w.heap.size w w1) := Lib.hid (HB0.out.trans (G1.out.mono HB0.out.size))
  have OT0_1 : Hid (OI w1 w.heap.size (.slice TA0 xs0.length xs0.length) xs0) := Lib.hid oa; clear oa
  have IT0 := Lib.hid OT0_1.out.wi
  go_wp2_with fail
  refine (toI_oi (H1.out.at (Nat.le_refl _) HB1.out) (Nat.le_refl _) Sd1.out).mono ?_
  rintro e w2 ⟨TA1, rfl, oa, g⟩
  have G2 := Lib.hid g; have SZ2 : Hid (w1.heap.size ≤ w2.heap.size) := Lib.hid g.size; clear g
  have OT0_2 : Hid (OI w2 w.heap.size (.slice TA0 xs0.length xs0.length) xs0) := Lib.hid (OT0_1.out.bel G2.out)
  have HB2 : Hid (Below w.heap.size w w2) := Lib.hid (HB1.out.trans (G2.out.mono HB1.out.size))
  have OT1_2 : Hid (OI w2 w1.heap.size (.slice TA1 xs1.length xs1.length) xs1) := Lib.hid oa; clear oa
  have IT1 := Lib.hid OT1_2.out.wi
  go_wp2_with fail
  refine (sAns HD.out HM.out HE.out (OT0_2.out.ri H0.out.inI) (OT1_2.out.ri H1.out.inI) (Nat.le_refl _)).mono ?_
  rintro e w3 ⟨ZA0, ZA1, Zc0, Zc1, rfl, oa, ob, hap, g⟩
  have G3 := Lib.hid g; have SZ3 : Hid (w2.heap.size ≤ w3.heap.size) := Lib.hid g.size; clear g
  have OT0_3 : Hid (OI w3 w.heap.size (.slice TA0 xs0.length xs0.length) xs0) := Lib.hid (OT0_2.out.bel G3.out)
  have OT1_3 : Hid (OI w3 w1.heap.size (.slice TA1 xs1.length xs1.length) xs1) := Lib.hid (OT1_2.out.bel G3.out)
  have HB3 : Hid (Below w.heap.size w w3) := Lib.hid (HB2.out.trans (G3.out.mono HB2.out.size))
  have OZ0_3 : Hid (OI w3 w2.heap.size (.slice ZA0 D.length Zc0) D) := Lib.hid oa; clear oa
  have OZ1_3 : Hid (OI w3 w2.heap.size (.slice ZA1 M.length Zc1) M) := Lib.hid ob; clear ob
  have XZ := Lib.hid hap; clear hap
  have IZ0 := Lib.hid OZ0_3.out.wi; have IZ1 := Lib.hid OZ1_3.out.wi
  have G4 : Hid (Below w3.heap.size w3 (w3.alloc (.cells #[.slice ZA0 D.length Zc0, .slice ZA1 M.length Zc1] 32))) := Lib.hid ((Below.refl _ _).alloc (Nat.le_refl _) _)
  have SZ4 : Hid (w3.heap.size + 1 ≤ (w3.alloc (.cells #[.slice ZA0 D.length Zc0, .slice ZA1 M.length Zc1] 32)).heap.size) := Lib.hid (by simp)
  have OZ0_4 : Hid (OI (w3.alloc (.cells #[.slice ZA0 D.length Zc0, .slice ZA1 M.length Zc1] 32)) w2.heap.size (.slice ZA0 D.length Zc0) D) := Lib.hid (OZ0_3.out.bel G4.out)
  have OZ1_4 : Hid (OI (w3.alloc (.cells #[.slice ZA0 D.length Zc0, .slice ZA1 M.length Zc1] 32)) w2.heap.size (.slice ZA1 M.length Zc1) M) := Lib.hid (OZ1_3.out.bel G4.out)
  have HB4 : Hid (Below w.heap.size w (w3.alloc (.cells #[.slice ZA0 D.length Zc0, .slice ZA1 M.length Zc1] 32))) := Lib.hid (HB3.out.trans (G4.out.mono HB3.out.size))
  have Q0_4 : Hid ((w3.alloc (.cells #[.slice ZA0 D.length Zc0, .slice ZA1 M.length Zc1] 32)).cell? ⟨w3.heap.size, 0, none⟩ = some (.slice ZA0 D.length Zc0)) := Lib.hid (by rw [cell_of_row _ _ _ _ _ _ (heap_alloc_new w3 _)]; rfl)
  have Q1_4 : Hid ((w3.alloc (.cells #[.slice ZA0 D.length Zc0, .slice ZA1 M.length Zc1] 32)).cell? ⟨w3.heap.size, 1, none⟩ = some (.slice ZA1 M.length Zc1)) := Lib.hid (by rw [cell_of_row _ _ _ _ _ _ (heap_alloc_new w3 _)]; rfl)
  have qQ0 := Q0_4.out
  have qQ1 := Q1_4.out
  go_wp2_with fail
  clear qQ0 qQ1
  generalize (w3.alloc (.cells #[.slice ZA0 D.length Zc0, .slice ZA1 M.length Zc1] 32)) = w4 at *
  refine (toI_oi (H0.out.at (Nat.le_refl _) HB4.out) (Nat.le_refl _) Sd0.out).mono ?_
  rintro e w5 ⟨VA0, rfl, oa, g⟩
  have G5 := Lib.hid g; have SZ5 : Hid (w4.heap.size ≤ w5.heap.size) := Lib.hid g.size; clear g
  have OZ0_5 : Hid (OI w5 w2.heap.size (.slice ZA0 D.length Zc0) D) := Lib.hid (OZ0_4.out.bel G5.out)
  have OZ1_5 : Hid (OI w5 w2.heap.size (.slice ZA1 M.length Zc1) M) := Lib.hid (OZ1_4.out.bel G5.out)
  have Q0_5 : Hid (w5.cell? ⟨w3.heap.size, 0, none⟩ = some (.slice ZA0 D.length Zc0)) := Lib.hid (oldcell G5.out Q0_4.out)
  have Q1_5 : Hid (w5.cell? ⟨w3.heap.size, 1, none⟩ = some (.slice ZA1 M.length Zc1)) := Lib.hid (oldcell G5.out Q1_4.out)
  have HB5 : Hid (Below w.heap.size w w5) := Lib.hid (HB4.out.trans (G5.out.mono HB4.out.size))
  have OV0_5 : Hid (OI w5 w4.heap.size (.slice VA0 xs0.length xs0.length) xs0) := Lib.hid oa; clear oa
  have IV0 := Lib.hid OV0_5.out.wi
  have qQ0 := Q0_5.out
  have qQ1 := Q1_5.out
  go_wp2_with fail
  clear qQ0 qQ1
  refine (toI_oi (H1.out.at (Nat.le_refl _) HB5.out) (Nat.le_refl _) Sd1.out).mono ?_
  rintro e w6 ⟨VA1, rfl, oa, g⟩
  have G6 := Lib.hid g; have SZ6 : Hid (w5.heap.size ≤ w6.heap.size) := Lib.hid g.size; clear g
  have OZ0_6 : Hid (OI w6 w2.heap.size (.slice ZA0 D.length Zc0) D) := Lib.hid (OZ0_5.out.bel G6.out)
  have OZ1_6 : Hid (OI w6 w2.heap.size (.slice ZA1 M.length Zc1) M) := Lib.hid (OZ1_5.out.bel G6.out)
  have Q0_6 : Hid (w6.cell? ⟨w3.heap.size, 0, none⟩ = some (.slice ZA0 D.length Zc0)) := Lib.hid (oldcell G6.out Q0_5.out)
  have Q1_6 : Hid (w6.cell? ⟨w3.heap.size, 1, none⟩ = some (.slice ZA1 M.length Zc1)) := Lib.hid (oldcell G6.out Q1_5.out)
  have OV0_6 : Hid (OI w6 w4.heap.size (.slice VA0 xs0.length xs0.length) xs0) := Lib.hid (OV0_5.out.bel G6.out)
  have HB6 : Hid (Below w.heap.size w w6) := Lib.hid (HB5.out.trans (G6.out.mono HB5.out.size))
  have OV1_6 : Hid (OI w6 w5.heap.size (.slice VA1 xs1.length xs1.length) xs1) := Lib.hid oa; clear oa
  have IV1 := Lib.hid OV1_6.out.wi
  have qQ0 := Q0_6.out
  have qQ1 := Q1_6.out
  go_wp2_with fail
  clear qQ0 qQ1
  refine (pAns HD.out HM.out HE.out (OV0_6.out.ri H0.out.inI) (OV1_6.out.ri H1.out.inI) (Nat.le_refl _)).mono ?_
  rintro e w7 ⟨YA0, YA1, Yc0, Yc1, rfl, oa, ob, hap, g⟩
  have G7 := Lib.hid g; have SZ7 : Hid (w6.heap.size ≤ w7.heap.size) := Lib.hid g.size; clear g
  have OZ0_7 : Hid (OI w7 w2.heap.size (.slice ZA0 D.length Zc0) D) := Lib.hid (OZ0_6.out.bel G7.out)
  have OZ1_7 : Hid (OI w7 w2.heap.size (.slice ZA1 M.length Zc1) M) := Lib.hid (OZ1_6.out.bel G7.out)
  have Q0_7 : Hid (w7.cell? ⟨w3.heap.size, 0, none⟩ = some (.slice ZA0 D.length Zc0)) := Lib.hid (oldcell G7.out Q0_6.out)
  have Q1_7 : Hid (w7.cell? ⟨w3.heap.size, 1, none⟩ = some (.slice ZA1 M.length Zc1)) := Lib.hid (oldcell G7.out Q1_6.out)
  have OV0_7 : Hid (OI w7 w4.heap.size (.slice VA0 xs0.length xs0.length) xs0) := Lib.hid (OV0_6.out.bel G7.out)
  have OV1_7 : Hid (OI w7 w5.heap.size (.slice VA1 xs1.length xs1.length) xs1) := Lib.hid (OV1_6.out.bel G7.out)
  have HB7 : Hid (Below w.heap.size w w7) := Lib.hid (HB6.out.trans (G7.out.mono HB6.out.size))
  have OY0_7 : Hid (OI w7 w6.heap.size (.slice YA0 D.length Yc0) D) := Lib.hid oa; clear oa
  have OY1_7 : Hid (OI w7 w6.heap.size (.slice YA1 M.length Yc1) M) := Lib.hid ob; clear ob
  have XY := Lib.hid hap; clear hap
  have IY0 := Lib.hid OY0_7.out.wi; have IY1 := Lib.hid OY1_7.out.wi
  have G8 : Hid (Below w7.heap.size w7 (w7.alloc (.cells #[.slice YA0 D.length Yc0, .slice YA1 M.length Yc1] 32))) := Lib.hid ((Below.refl _ _).alloc (Nat.le_refl _) _)
  have SZ8 : Hid (w7.heap.size + 1 ≤ (w7.alloc (.cells #[.slice YA0 D.length Yc0, .slice YA1 M.length Yc1] 32)).heap.size) := Lib.hid (by simp)
  have OZ0_8 : Hid (OI (w7.alloc (.cells #[.slice YA0 D.length Yc0, .slice YA1 M.length Yc1] 32)) w2.heap.size (.slice ZA0 D.length Zc0) D) := Lib.hid (OZ0_7.out.bel G8.out)
  have OZ1_8 : Hid (OI (w7.alloc (.cells #[.slice YA0 D.length Yc0, .slice YA1 M.length Yc1] 32)) w2.heap.size (.slice ZA1 M.length Zc1) M) := Lib.hid (OZ1_7.out.bel G8.out)
  have Q0_8 : Hid ((w7.alloc (.cells #[.slice YA0 D.length Yc0, .slice YA1 M.length Yc1] 32)).cell? ⟨w3.heap.size, 0, none⟩ = some (.slice ZA0 D.length Zc0)) := Lib.hid (oldcell G8.out Q0_7.out)
  have Q1_8 : Hid ((w7.alloc (.cells #[.slice YA0 D.length Yc0, .slice YA1 M.length Yc1] 32)).cell? ⟨w3.heap.size, 1, none⟩ = some (.slice ZA1 M.length Zc1)) := Lib.hid (oldcell G8.out Q1_7.out)
  have OV0_8 : Hid (OI (w7.alloc (.cells #[.slice YA0 D.length Yc0, .slice YA1 M.length Yc1] 32)) w4.heap.size (.slice VA0 xs0.length xs0.length) xs0) := Lib.hid (OV0_7.out.bel G8.out)
  have OV1_8 : Hid (OI (w7.alloc (.cells #[.slice YA0 D.length Yc0, .slice YA1 M.length Yc1] 32)) w5.heap.size (.slice VA1 xs1.length xs1.length) xs1) := Lib.hid (OV1_7.out.bel G8.out)
  have OY0_8 : Hid (OI (w7.alloc (.cells #[.slice YA0 D.length Yc0, .slice YA1 M.length Yc1] 32)) w6.heap.size (.slice YA0 D.length Yc0) D) := Lib.hid (OY0_7.out.bel G8.out)
  have OY1_8 : Hid (OI (w7.alloc (.cells #[.slice YA0 D.length Yc0, .slice YA1 M.length Yc1] 32)) w6.heap.size (.slice YA1 M.length Yc1) M) := Lib.hid (OY1_7.out.bel G8.out)
  have HB8 : Hid (Below w.heap.size w (w7.alloc (.cells #[.slice YA0 D.length Yc0, .slice YA1 M.length Yc1] 32))) := Lib.hid (HB7.out.trans (G8.out.mono HB7.out.size))
  have S0_8 : Hid ((w7.alloc (.cells #[.slice YA0 D.length Yc0, .slice YA1 M.length Yc1] 32)).cell? ⟨w7.heap.size, 0, none⟩ = some (.slice YA0 D.length Yc0)) := Lib.hid (by rw [cell_of_row _ _ _ _ _ _ (heap_alloc_new w7 _)]; rfl)
  have S1_8 : Hid ((w7.alloc (.cells #[.slice YA0 D.length Yc0, .slice YA1 M.length Yc1] 32)).cell? ⟨w7.heap.size, 1, none⟩ = some (.slice YA1 M.length Yc1)) := Lib.hid (by rw [cell_of_row _ _ _ _ _ _ (heap_alloc_new w7 _)]; rfl)
  have qQ0 := Q0_8.out
  have qQ1 := Q1_8.out
  have qS0 := S0_8.out
  have qS1 := S1_8.out
  go_wp2_with fail
  clear qQ0 qQ1 qS0 qS1
  generalize (w7.alloc (.cells #[.slice YA0 D.length Yc0, .slice YA1 M.length Yc1] 32)) = w8 at *
  refine (eqBox_any (OY0_8.out.ri ID.out) (OY1_8.out.ri IM.out) (OZ0_8.out.ri ID.out) (OZ1_8.out.ri IM.out) (Nat.le_refl _)).mono ?_
  rintro e w9 ⟨rfl, g⟩
  have G9 := Lib.hid g; have SZ9 : Hid (w8.heap.size ≤ w9.heap.size) := Lib.hid g.size; clear g
  have OZ0_9 : Hid (OI w9 w2.heap.size (.slice ZA0 D.length Zc0) D) := Lib.hid (OZ0_8.out.bel G9.out)
  have OZ1_9 : Hid (OI w9 w2.heap.size (.slice ZA1 M.length Zc1) M) := Lib.hid (OZ1_8.out.bel G9.out)
  have Q0_9 : Hid (w9.cell? ⟨w3.heap.size, 0, none⟩ = some (.slice ZA0 D.length Zc0)) := Lib.hid (oldcell G9.out Q0_8.out)
  have Q1_9 : Hid (w9.cell? ⟨w3.heap.size, 1, none⟩ = some (.slice ZA1 M.length Zc1)) := Lib.hid (oldcell G9.out Q1_8.out)
  have OV0_9 : Hid (OI w9 w4.heap.size (.slice VA0 xs0.length xs0.length) xs0) := Lib.hid (OV0_8.out.bel G9.out)
  have OV1_9 : Hid (OI w9 w5.heap.size (.slice VA1 xs1.length xs1.length) xs1) := Lib.hid (OV1_8.out.bel G9.out)
  have OY0_9 : Hid (OI w9 w6.heap.size (.slice YA0 D.length Yc0) D) := Lib.hid (OY0_8.out.bel G9.out)
  have OY1_9 : Hid (OI w9 w6.heap.size (.slice YA1 M.length Yc1) M) := Lib.hid (OY1_8.out.bel G9.out)
  have S0_9 : Hid (w9.cell? ⟨w7.heap.size, 0, none⟩ = some (.slice YA0 D.length Yc0)) := Lib.hid (oldcell G9.out S0_8.out)
  have S1_9 : Hid (w9.cell? ⟨w7.heap.size, 1, none⟩ = some (.slice YA1 M.length Yc1)) := Lib.hid (oldcell G9.out S1_8.out)
  have HB9 : Hid (Below w.heap.size w w9) := Lib.hid (HB8.out.trans (G9.out.mono HB8.out.size))
  have qQ0 := Q0_9.out
  have qQ1 := Q1_9.out
  have qS0 := S0_9.out
  have qS1 := S1_9.out
  go_wp2_with fail
  clear qQ0 qQ1 qS0 qS1
  refine (toI_oi (H0.out.at (Nat.le_refl _) HB9.out) (Nat.le_refl _) Sd0.out).mono ?_
  rintro e w10 ⟨NA0, rfl, oa, g⟩
  have G10 := Lib.hid g; have SZ10 : Hid (w9.heap.size ≤ w10.heap.size) := Lib.hid g.size; clear g
  have OZ0_10 : Hid (OI w10 w2.heap.size (.slice ZA0 D.length Zc0) D) := Lib.hid (OZ0_9.out.bel G10.out)
  have OZ1_10 : Hid (OI w10 w2.heap.size (.slice ZA1 M.length Zc1) M) := Lib.hid (OZ1_9.out.bel G10.out)
  have Q0_10 : Hid (w10.cell? ⟨w3.heap.size, 0, none⟩ = some (.slice ZA0 D.length Zc0)) := Lib.hid (oldcell G10.out Q0_9.out)
  have Q1_10 : Hid (w10.cell? ⟨w3.heap.size, 1, none⟩ = some (.slice ZA1 M.length Zc1)) := Lib.hid (oldcell G10.out Q1_9.out)
  have OV0_10 : Hid (OI w10 w4.heap.size (.slice VA0 xs0.length xs0.length) xs0) := Lib.hid (OV0_9.out.bel G10.out)
  have OV1_10 : Hid (OI w10 w5.heap.size (.slice VA1 xs1.length xs1.length) xs1) := Lib.hid (OV1_9.out.bel G10.out)
  have OY0_10 : Hid (OI w10 w6.heap.size (.slice YA0 D.length Yc0) D) := Lib.hid (OY0_9.out.bel G10.out)
  have OY1_10 : Hid (OI w10 w6.heap.size (.slice YA1 M.length Yc1) M) := Lib.hid (OY1_9.out.bel G10.out)
  have S0_10 : Hid (w10.cell? ⟨w7.heap.size, 0, none⟩ = some (.slice YA0 D.length Yc0)) := Lib.hid (oldcell G10.out S0_9.out)
  have S1_10 : Hid (w10.cell? ⟨w7.heap.size, 1, none⟩ = some (.slice YA1 M.length Yc1)) := Lib.hid (oldcell G10.out S1_9.out)
  have HB10 : Hid (Below w.heap.size w w10) := Lib.hid (HB9.out.trans (G10.out.mono HB9.out.size))
  have ON0_10 : Hid (OI w10 w9.heap.size (.slice NA0 xs0.length xs0.length) xs0) := Lib.hid oa; clear oa
  have IN0 := Lib.hid ON0_10.out.wi
  have qQ0 := Q0_10.out
  have qQ1 := Q1_10.out
  have qS0 := S0_10.out
  have qS1 := S1_10.out
  go_wp2_with fail
  clear qQ0 qQ1 qS0 qS1
  refine (eqI_any (OV0_10.out.ri H0.out.inI) (ON0_10.out.ri H0.out.inI) (Nat.le_refl _)).mono ?_
  rintro e w11 ⟨rfl, g⟩
  have G11 := Lib.hid g; have SZ11 : Hid (w10.heap.size ≤ w11.heap.size) := Lib.hid g.size; clear g
  have OZ0_11 : Hid (OI w11 w2.heap.size (.slice ZA0 D.length Zc0) D) := Lib.hid (OZ0_10.out.bel G11.out)
  have OZ1_11 : Hid (OI w11 w2.heap.size (.slice ZA1 M.length Zc1) M) := Lib.hid (OZ1_10.out.bel G11.out)
  have Q0_11 : Hid (w11.cell? ⟨w3.heap.size, 0, none⟩ = some (.slice ZA0 D.length Zc0)) := Lib.hid (oldcell G11.out Q0_10.out)
  have Q1_11 : Hid (w11.cell? ⟨w3.heap.size, 1, none⟩ = some (.slice ZA1 M.length Zc1)) := Lib.hid (oldcell G11.out Q1_10.out)
  have OV0_11 : Hid (OI w11 w4.heap.size (.slice VA0 xs0.length xs0.length) xs0) := Lib.hid (OV0_10.out.bel G11.out)
  have OV1_11 : Hid (OI w11 w5.heap.size (.slice VA1 xs1.length xs1.length) xs1) := Lib.hid (OV1_10.out.bel G11.out)
  have OY0_11 : Hid (OI w11 w6.heap.size (.slice YA0 D.length Yc0) D) := Lib.hid (OY0_10.out.bel G11.out)
  have OY1_11 : Hid (OI w11 w6.heap.size (.slice YA1 M.length Yc1) M) := Lib.hid (OY1_10.out.bel G11.out)
  have S0_11 : Hid (w11.cell? ⟨w7.heap.size, 0, none⟩ = some (.slice YA0 D.length Yc0)) := Lib.hid (oldcell G11.out S0_10.out)
  have S1_11 : Hid (w11.cell? ⟨w7.heap.size, 1, none⟩ = some (.slice YA1 M.length Yc1)) := Lib.hid (oldcell G11.out S1_10.out)
  have ON0_11 : Hid (OI w11 w9.heap.size (.slice NA0 xs0.length xs0.length) xs0) := Lib.hid (ON0_10.out.bel G11.out)
  have HB11 : Hid (Below w.heap.size w w11) := Lib.hid (HB10.out.trans (G11.out.mono HB10.out.size))
  have qQ0 := Q0_11.out
  have qQ1 := Q1_11.out
  have qS0 := S0_11.out
  have qS1 := S1_11.out
  go_wp2_with fail
  clear qQ0 qQ1 qS0 qS1
  refine (toI_oi (H1.out.at (Nat.le_refl _) HB11.out) (Nat.le_refl _) Sd1.out).mono ?_
  rintro e w12 ⟨NA1, rfl, oa, g⟩
  have G12 := Lib.hid g; have SZ12 : Hid (w11.heap.size ≤ w12.heap.size) := Lib.hid g.size; clear g
  have OZ0_12 : Hid (OI w12 w2.heap.size (.slice ZA0 D.length Zc0) D) := Lib.hid (OZ0_11.out.bel G12.out)
  have OZ1_12 : Hid (OI w12 w2.heap.size (.slice ZA1 M.length Zc1) M) := Lib.hid (OZ1_11.out.bel G12.out)
  have Q0_12 : Hid (w12.cell? ⟨w3.heap.size, 0, none⟩ = some (.slice ZA0 D.length Zc0)) := Lib.hid (oldcell G12.out Q0_11.out)
  have Q1_12 : Hid (w12.cell? ⟨w3.heap.size, 1, none⟩ = some (.slice ZA1 M.length Zc1)) := Lib.hid (oldcell G12.out Q1_11.out)
  have OV0_12 : Hid (OI w12 w4.heap.size (.slice VA0 xs0.length xs0.length) xs0) := Lib.hid (OV0_11.out.bel G12.out)
  have OV1_12 : Hid (OI w12 w5.heap.size (.slice VA1 xs1.length xs1.length) xs1) := Lib.hid (OV1_11.out.bel G12.out)
  have OY0_12 : Hid (OI w12 w6.heap.size (.slice YA0 D.length Yc0) D) := Lib.hid (OY0_11.out.bel G12.out)
  have OY1_12 : Hid (OI w12 w6.heap.size (.slice YA1 M.length Yc1) M) := Lib.hid (OY1_11.out.bel G12.out)
  have S0_12 : Hid (w12.cell? ⟨w7.heap.size, 0, none⟩ = some (.slice YA0 D.length Yc0)) := Lib.hid (oldcell G12.out S0_11.out)
  have S1_12 : Hid (w12.cell? ⟨w7.heap.size, 1, none⟩ = some (.slice YA1 M.length Yc1)) := Lib.hid (oldcell G12.out S1_11.out)
  have HB12 : Hid (Below w.heap.size w w12) := Lib.hid (HB11.out.trans (G12.out.mono HB11.out.size))
  have ON1_12 : Hid (OI w12 w11.heap.size (.slice NA1 xs1.length xs1.length) xs1) := Lib.hid oa; clear oa
  have IN1 := Lib.hid ON1_12.out.wi
  have qQ0 := Q0_12.out
  have qQ1 := Q1_12.out
  have qS0 := S0_12.out
  have qS1 := S1_12.out
  go_wp2_with fail
  clear qQ0 qQ1 qS0 qS1
  refine (eqI_any (OV1_12.out.ri H1.out.inI) (ON1_12.out.ri H1.out.inI) (Nat.le_refl _)).mono ?_
  rintro e w13 ⟨rfl, g⟩
  have G13 := Lib.hid g; have SZ13 : Hid (w12.heap.size ≤ w13.heap.size) := Lib.hid g.size; clear g
  have OZ0_13 : Hid (OI w13 w2.heap.size (.slice ZA0 D.length Zc0) D) := Lib.hid (OZ0_12.out.bel G13.out)
  have OZ1_13 : Hid (OI w13 w2.heap.size (.slice ZA1 M.length Zc1) M) := Lib.hid (OZ1_12.out.bel G13.out)
  have Q0_13 : Hid (w13.cell? ⟨w3.heap.size, 0, none⟩ = some (.slice ZA0 D.length Zc0)) := Lib.hid (oldcell G13.out Q0_12.out)
  have Q1_13 : Hid (w13.cell? ⟨w3.heap.size, 1, none⟩ = some (.slice ZA1 M.length Zc1)) := Lib.hid (oldcell G13.out Q1_12.out)
  have OV0_13 : Hid (OI w13 w4.heap.size (.slice VA0 xs0.length xs0.length) xs0) := Lib.hid (OV0_12.out.bel G13.out)
  have OV1_13 : Hid (OI w13 w5.heap.size (.slice VA1 xs1.length xs1.length) xs1) := Lib.hid (OV1_12.out.bel G13.out)
  have OY0_13 : Hid (OI w13 w6.heap.size (.slice YA0 D.length Yc0) D) := Lib.hid (OY0_12.out.bel G13.out)
  have OY1_13 : Hid (OI w13 w6.heap.size (.slice YA1 M.length Yc1) M) := Lib.hid (OY1_12.out.bel G13.out)
  have S0_13 : Hid (w13.cell? ⟨w7.heap.size, 0, none⟩ = some (.slice YA0 D.length Yc0)) := Lib.hid (oldcell G13.out S0_12.out)
  have S1_13 : Hid (w13.cell? ⟨w7.heap.size, 1, none⟩ = some (.slice YA1 M.length Yc1)) := Lib.hid (oldcell G13.out S1_12.out)
  have ON1_13 : Hid (OI w13 w11.heap.size (.slice NA1 xs1.length xs1.length) xs1) := Lib.hid (ON1_12.out.bel G13.out)
  have HB13 : Hid (Below w.heap.size w w13) := Lib.hid (HB12.out.trans (G13.out.mono HB12.out.size))
  have qQ0 := Q0_13.out
  have qQ1 := Q1_13.out
  have qS0 := S0_13.out
  have qS1 := S1_13.out
  go_wp2_with fail
  clear qQ0 qQ1 qS0 qS1
  refine (markI_any OV0_13.out (1) (by have h2 := Sd0.out; have h3 := Sd1.out; omega)).mono ?_
  rintro e w14 ⟨rfl, _, gg⟩
  have Mv14 : Hid (Mv w4.heap.size w5.heap.size w13 w14) := Lib.hid (Mv.grown gg IV0.out)
  have SZ14 : Hid (w13.heap.size ≤ w14.heap.size) := Lib.hid Mv14.out.2.2.2.1
  have OZ0_14 : Hid (OI w14 w2.heap.size (.slice ZA0 D.length Zc0) D) := Lib.hid (OZ0_13.out.mv Mv14.out (fun g hg => by have := IZ0.out g hg; have s0 := SZ0.out; have s1 := SZ1.out; have s2 := SZ2.out; have s3 := SZ3.out; have s4 := SZ4.out; have s5 := SZ5.out; have s6 := SZ6.out; have s7 := SZ7.out; have s8 := SZ8.out; have s9 := SZ9.out; have s10 := SZ10.out; have s11 := SZ11.out; have s12 := SZ12.out; have s13 := SZ13.out; have s14 := SZ14.out; omega))
  have OZ1_14 : Hid (OI w14 w2.heap.size (.slice ZA1 M.length Zc1) M) := Lib.hid (OZ1_13.out.mv Mv14.out (fun g hg => by have := IZ1.out g hg; have s0 := SZ0.out; have s1 := SZ1.out; have s2 := SZ2.out; have s3 := SZ3.out; have s4 := SZ4.out; have s5 := SZ5.out; have s6 := SZ6.out; have s7 := SZ7.out; have s8 := SZ8.out; have s9 := SZ9.out; have s10 := SZ10.out; have s11 := SZ11.out; have s12 := SZ12.out; have s13 := SZ13.out; have s14 := SZ14.out; omega))
  have Q0_14 : Hid (w14.cell? ⟨w3.heap.size, 0, none⟩ = some (.slice ZA0 D.length Zc0)) := Lib.hid (Mv14.out.cell Q0_13.out (by have s0 := SZ0.out; have s1 := SZ1.out; have s2 := SZ2.out; have s3 := SZ3.out; have s4 := SZ4.out; have s5 := SZ5.out; have s6 := SZ6.out; have s7 := SZ7.out; have s8 := SZ8.out; have s9 := SZ9.out; have s10 := SZ10.out; have s11 := SZ11.out; have s12 := SZ12.out; have s13 := SZ13.out; have s14 := SZ14.out; simp only; omega))
  have Q1_14 : Hid (w14.cell? ⟨w3.heap.size, 1, none⟩ = some (.slice ZA1 M.length Zc1)) := Lib.hid (Mv14.out.cell Q1_13.out (by have s0 := SZ0.out; have s1 := SZ1.out; have s2 := SZ2.out; have s3 := SZ3.out; have s4 := SZ4.out; have s5 := SZ5.out; have s6 := SZ6.out; have s7 := SZ7.out; have s8 := SZ8.out; have s9 := SZ9.out; have s10 := SZ10.out; have s11 := SZ11.out; have s12 := SZ12.out; have s13 := SZ13.out; have s14 := SZ14.out; simp only; omega))
  have OV1_14 : Hid (OI w14 w5.heap.size (.slice VA1 xs1.length xs1.length) xs1) := Lib.hid (OV1_13.out.mv Mv14.out (fun g hg => by have := IV1.out g hg; have s0 := SZ0.out; have s1 := SZ1.out; have s2 := SZ2.out; have s3 := SZ3.out; have s4 := SZ4.out; have s5 := SZ5.out; have s6 := SZ6.out; have s7 := SZ7.out; have s8 := SZ8.out; have s9 := SZ9.out; have s10 := SZ10.out; have s11 := SZ11.out; have s12 := SZ12.out; have s13 := SZ13.out; have s14 := SZ14.out; omega))
  have OY0_14 : Hid (OI w14 w6.heap.size (.slice YA0 D.length Yc0) D) := Lib.hid (OY0_13.out.mv Mv14.out (fun g hg => by have := IY0.out g hg; have s0 := SZ0.out; have s1 := SZ1.out; have s2 := SZ2.out; have s3 := SZ3.out; have s4 := SZ4.out; have s5 := SZ5.out; have s6 := SZ6.out; have s7 := SZ7.out; have s8 := SZ8.out; have s9 := SZ9.out; have s10 := SZ10.out; have s11 := SZ11.out; have s12 := SZ12.out; have s13 := SZ13.out; have s14 := SZ14.out; omega))
  have OY1_14 : Hid (OI w14 w6.heap.size (.slice YA1 M.length Yc1) M) := Lib.hid (OY1_13.out.mv Mv14.out (fun g hg => by have := IY1.out g hg; have s0 := SZ0.out; have s1 := SZ1.out; have s2 := SZ2.out; have s3 := SZ3.out; have s4 := SZ4.out; have s5 := SZ5.out; have s6 := SZ6.out; have s7 := SZ7.out; have s8 := SZ8.out; have s9 := SZ9.out; have s10 := SZ10.out; have s11 := SZ11.out; have s12 := SZ12.out; have s13 := SZ13.out; have s14 := SZ14.out; omega))
  have S0_14 : Hid (w14.cell? ⟨w7.heap.size, 0, none⟩ = some (.slice YA0 D.length Yc0)) := Lib.hid (Mv14.out.cell S0_13.out (by have s0 := SZ0.out; have s1 := SZ1.out; have s2 := SZ2.out; have s3 := SZ3.out; have s4 := SZ4.out; have s5 := SZ5.out; have s6 := SZ6.out; have s7 := SZ7.out; have s8 := SZ8.out; have s9 := SZ9.out; have s10 := SZ10.out; have s11 := SZ11.out; have s12 := SZ12.out; have s13 := SZ13.out; have s14 := SZ14.out; simp only; omega))
  have S1_14 : Hid (w14.cell? ⟨w7.heap.size, 1, none⟩ = some (.slice YA1 M.length Yc1)) := Lib.hid (Mv14.out.cell S1_13.out (by have s0 := SZ0.out; have s1 := SZ1.out; have s2 := SZ2.out; have s3 := SZ3.out; have s4 := SZ4.out; have s5 := SZ5.out; have s6 := SZ6.out; have s7 := SZ7.out; have s8 := SZ8.out; have s9 := SZ9.out; have s10 := SZ10.out; have s11 := SZ11.out; have s12 := SZ12.out; have s13 := SZ13.out; have s14 := SZ14.out; simp only; omega))
  have HB14 : Hid (Below w.heap.size w w14) := Lib.hid (Mv14.out.below HB13.out (by have s0 := SZ0.out; have s1 := SZ1.out; have s2 := SZ2.out; have s3 := SZ3.out; have s4 := SZ4.out; have s5 := SZ5.out; have s6 := SZ6.out; have s7 := SZ7.out; have s8 := SZ8.out; have s9 := SZ9.out; have s10 := SZ10.out; have s11 := SZ11.out; have s12 := SZ12.out; have s13 := SZ13.out; have s14 := SZ14.out; omega) HB13.out.size)
  clear gg
  have qQ0 := Q0_14.out
  have qQ1 := Q1_14.out
  have qS0 := S0_14.out
  have qS1 := S1_14.out
  go_wp2_with fail
  clear qQ0 qQ1 qS0 qS1
  refine (markI_any OV1_14.out (1 + xs0.length) (by have h2 := Sd0.out; have h3 := Sd1.out; omega)).mono ?_
  rintro e w15 ⟨rfl, _, gg⟩
  have Mv15 : Hid (Mv w5.heap.size w6.heap.size w14 w15) := Lib.hid (Mv.grown gg IV1.out)
  have SZ15 : Hid (w14.heap.size ≤ w15.heap.size) := Lib.hid Mv15.out.2.2.2.1
  have OZ0_15 : Hid (OI w15 w2.heap.size (.slice ZA0 D.length Zc0) D) := Lib.hid (OZ0_14.out.mv Mv15.out (fun g hg => by have := IZ0.out g hg; have s0 := SZ0.out; have s1 := SZ1.out; have s2 := SZ2.out; have s3 := SZ3.out; have s4 := SZ4.out; have s5 := SZ5.out; have s6 := SZ6.out; have s7 := SZ7.out; have s8 := SZ8.out; have s9 := SZ9.out; have s10 := SZ10.out; have s11 := SZ11.out; have s12 := SZ12.out; have s13 := SZ13.out; have s14 := SZ14.out; have s15 := SZ15.out; omega))
  have OZ1_15 : Hid (OI w15 w2.heap.size (.slice ZA1 M.length Zc1) M) := Lib.hid (OZ1_14.out.mv Mv15.out (fun g hg => by have := IZ1.out g hg; have s0 := SZ0.out; have s1 := SZ1.out; have s2 := SZ2.out; have s3 := SZ3.out; have s4 := SZ4.out; have s5 := SZ5.out; have s6 := SZ6.out; have s7 := SZ7.out; have s8 := SZ8.out; have s9 := SZ9.out; have s10 := SZ10.out; have s11 := SZ11.out; have s12 := SZ12.out; have s13 := SZ13.out; have s14 := SZ14.out; have s15 := SZ15.out; omega))
  have Q0_15 : Hid (w15.cell? ⟨w3.heap.size, 0, none⟩ = some (.slice ZA0 D.length Zc0)) := Lib.hid (Mv15.out.cell Q0_14.out (by have s0 := SZ0.out; have s1 := SZ1.out; have s2 := SZ2.out; have s3 := SZ3.out; have s4 := SZ4.out; have s5 := SZ5.out; have s6 := SZ6.out; have s7 := SZ7.out; have s8 := SZ8.out; have s9 := SZ9.out; have s10 := SZ10.out; have s11 := SZ11.out; have s12 := SZ12.out; have s13 := SZ13.out; have s14 := SZ14.out; have s15 := SZ15.out; simp only; omega))
  have Q1_15 : Hid (w15.cell? ⟨w3.heap.size, 1, none⟩ = some (.slice ZA1 M.length Zc1)) := Lib.hid (Mv15.out.cell Q1_14.out (by have s0 := SZ0.out; have s1 := SZ1.out; have s2 := SZ2.out; have s3 := SZ3.out; have s4 := SZ4.out; have s5 := SZ5.out; have s6 := SZ6.out; have s7 := SZ7.out; have s8 := SZ8.out; have s9 := SZ9.out; have s10 := SZ10.out; have s11 := SZ11.out; have s12 := SZ12.out; have s13 := SZ13.out; have s14 := SZ14.out; have s15 := SZ15.out; simp only; omega))
  have OY0_15 : Hid (OI w15 w6.heap.size (.slice YA0 D.length Yc0) D) := Lib.hid (OY0_14.out.mv Mv15.out (fun g hg => by have := IY0.out g hg; have s0 := SZ0.out; have s1 := SZ1.out; have s2 := SZ2.out; have s3 := SZ3.out; have s4 := SZ4.out; have s5 := SZ5.out; have s6 := SZ6.out; have s7 := SZ7.out; have s8 := SZ8.out; have s9 := SZ9.out; have s10 := SZ10.out; have s11 := SZ11.out; have s12 := SZ12.out; have s13 := SZ13.out; have s14 := SZ14.out; have s15 := SZ15.out; omega))
  have OY1_15 : Hid (OI w15 w6.heap.size (.slice YA1 M.length Yc1) M) := Lib.hid (OY1_14.out.mv Mv15.out (fun g hg => by have := IY1.out g hg; have s0 := SZ0.out; have s1 := SZ1.out; have s2 := SZ2.out; have s3 := SZ3.out; have s4 := SZ4.out; have s5 := SZ5.out; have s6 := SZ6.out; have s7 := SZ7.out; have s8 := SZ8.out; have s9 := SZ9.out; have s10 := SZ10.out; have s11 := SZ11.out; have s12 := SZ12.out; have s13 := SZ13.out; have s14 := SZ14.out; have s15 := SZ15.out; omega))
  have S0_15 : Hid (w15.cell? ⟨w7.heap.size, 0, none⟩ = some (.slice YA0 D.length Yc0)) := Lib.hid (Mv15.out.cell S0_14.out (by have s0 := SZ0.out; have s1 := SZ1.out; have s2 := SZ2.out; have s3 := SZ3.out; have s4 := SZ4.out; have s5 := SZ5.out; have s6 := SZ6.out; have s7 := SZ7.out; have s8 := SZ8.out; have s9 := SZ9.out; have s10 := SZ10.out; have s11 := SZ11.out; have s12 := SZ12.out; have s13 := SZ13.out; have s14 := SZ14.out; have s15 := SZ15.out; simp only; omega))
  have S1_15 : Hid (w15.cell? ⟨w7.heap.size, 1, none⟩ = some (.slice YA1 M.length Yc1)) := Lib.hid (Mv15.out.cell S1_14.out (by have s0 := SZ0.out; have s1 := SZ1.out; have s2 := SZ2.out; have s3 := SZ3.out; have s4 := SZ4.out; have s5 := SZ5.out; have s6 := SZ6.out; have s7 := SZ7.out; have s8 := SZ8.out; have s9 := SZ9.out; have s10 := SZ10.out; have s11 := SZ11.out; have s12 := SZ12.out; have s13 := SZ13.out; have s14 := SZ14.out; have s15 := SZ15.out; simp only; omega))
  have HB15 : Hid (Below w.heap.size w w15) := Lib.hid (Mv15.out.below HB14.out (by have s0 := SZ0.out; have s1 := SZ1.out; have s2 := SZ2.out; have s3 := SZ3.out; have s4 := SZ4.out; have s5 := SZ5.out; have s6 := SZ6.out; have s7 := SZ7.out; have s8 := SZ8.out; have s9 := SZ9.out; have s10 := SZ10.out; have s11 := SZ11.out; have s12 := SZ12.out; have s13 := SZ13.out; have s14 := SZ14.out; have s15 := SZ15.out; omega) HB14.out.size)
  clear gg
  have neg1 : ¬ (((1 + xs0.length + xs1.length : Nat) : Int) < 0) := by omega
  have qQ0 := Q0_15.out
  have qQ1 := Q1_15.out
  have qS0 := S0_15.out
  have qS1 := S1_15.out
  go_wp2_with fail
  clear qQ0 qQ1 qS0 qS1
  refine (eqBox_any (OY0_15.out.ri ID.out) (OY1_15.out.ri IM.out) (OZ0_15.out.ri ID.out) (OZ1_15.out.ri IM.out) (Nat.le_refl _)).mono ?_
  rintro e w16 ⟨rfl, g⟩
  have G16 := Lib.hid g; have SZ16 : Hid (w15.heap.size ≤ w16.heap.size) := Lib.hid g.size; clear g
  have OZ0_16 : Hid (OI w16 w2.heap.size (.slice ZA0 D.length Zc0) D) := Lib.hid (OZ0_15.out.bel G16.out)
  have OZ1_16 : Hid (OI w16 w2.heap.size (.slice ZA1 M.length Zc1) M) := Lib.hid (OZ1_15.out.bel G16.out)
  have Q0_16 : Hid (w16.cell? ⟨w3.heap.size, 0, none⟩ = some (.slice ZA0 D.length Zc0)) := Lib.hid (oldcell G16.out Q0_15.out)
  have Q1_16 : Hid (w16.cell? ⟨w3.heap.size, 1, none⟩ = some (.slice ZA1 M.length Zc1)) := Lib.hid (oldcell G16.out Q1_15.out)
  have OY0_16 : Hid (OI w16 w6.heap.size (.slice YA0 D.length Yc0) D) := Lib.hid (OY0_15.out.bel G16.out)
  have OY1_16 : Hid (OI w16 w6.heap.size (.slice YA1 M.length Yc1) M) := Lib.hid (OY1_15.out.bel G16.out)
  have S0_16 : Hid (w16.cell? ⟨w7.heap.size, 0, none⟩ = some (.slice YA0 D.length Yc0)) := Lib.hid (oldcell G16.out S0_15.out)
  have S1_16 : Hid (w16.cell? ⟨w7.heap.size, 1, none⟩ = some (.slice YA1 M.length Yc1)) := Lib.hid (oldcell G16.out S1_15.out)
  have HB16 : Hid (Below w.heap.size w w16) := Lib.hid (HB15.out.trans (G16.out.mono HB15.out.size))
  have qQ0 := Q0_16.out
  have qQ1 := Q1_16.out
  have qS0 := S0_16.out
  have qS1 := S1_16.out
  go_wp2_with fail
  clear qQ0 qQ1 qS0 qS1
  refine (markBox_any (lo := w6.heap.size) (hi := w7.heap.size) OY0_16.out OY1_16.out IY0.out IY1.out XY.out (by have s0 := SZ0.out; have s1 := SZ1.out; have s2 := SZ2.out; have s3 := SZ3.out; have s4 := SZ4.out; have s5 := SZ5.out; have s6 := SZ6.out; have s7 := SZ7.out; have s8 := SZ8.out; have s9 := SZ9.out; have s10 := SZ10.out; have s11 := SZ11.out; have s12 := SZ12.out; have s13 := SZ13.out; have s14 := SZ14.out; have s15 := SZ15.out; have s16 := SZ16.out; omega) 1 (by have h1 := LD.out; have h2 := LM.out; omega)).mono ?_
  rintro e w17 ⟨rfl, oa, ob, mm⟩
  have Mv17 : Hid (Mv w6.heap.size w7.heap.size w16 w17) := Lib.hid (mm)
  have SZ17 : Hid (w16.heap.size ≤ w17.heap.size) := Lib.hid Mv17.out.2.2.2.1
  have OZ0_17 : Hid (OI w17 w2.heap.size (.slice ZA0 D.length Zc0) D) := Lib.hid (OZ0_16.out.mv Mv17.out (fun g hg => by have := IZ0.out g hg; have s0 := SZ0.out; have s1 := SZ1.out; have s2 := SZ2.out; have s3 := SZ3.out; have s4 := SZ4.out; have s5 := SZ5.out; have s6 := SZ6.out; have s7 := SZ7.out; have s8 := SZ8.out; have s9 := SZ9.out; have s10 := SZ10.out; have s11 := SZ11.out; have s12 := SZ12.out; have s13 := SZ13.out; have s14 := SZ14.out; have s15 := SZ15.out; have s16 := SZ16.out; have s17 := SZ17.out; omega))
  have OZ1_17 : Hid (OI w17 w2.heap.size (.slice ZA1 M.length Zc1) M) := Lib.hid (OZ1_16.out.mv Mv17.out (fun g hg => by have := IZ1.out g hg; have s0 := SZ0.out; have s1 := SZ1.out; have s2 := SZ2.out; have s3 := SZ3.out; have s4 := SZ4.out; have s5 := SZ5.out; have s6 := SZ6.out; have s7 := SZ7.out; have s8 := SZ8.out; have s9 := SZ9.out; have s10 := SZ10.out; have s11 := SZ11.out; have s12 := SZ12.out; have s13 := SZ13.out; have s14 := SZ14.out; have s15 := SZ15.out; have s16 := SZ16.out; have s17 := SZ17.out; omega))
  have Q0_17 : Hid (w17.cell? ⟨w3.heap.size, 0, none⟩ = some (.slice ZA0 D.length Zc0)) := Lib.hid (Mv17.out.cell Q0_16.out (by have s0 := SZ0.out; have s1 := SZ1.out; have s2 := SZ2.out; have s3 := SZ3.out; have s4 := SZ4.out; have s5 := SZ5.out; have s6 := SZ6.out; have s7 := SZ7.out; have s8 := SZ8.out; have s9 := SZ9.out; have s10 := SZ10.out; have s11 := SZ11.out; have s12 := SZ12.out; have s13 := SZ13.out; have s14 := SZ14.out; have s15 := SZ15.out; have s16 := SZ16.out; have s17 := SZ17.out; simp only; omega))
  have Q1_17 : Hid (w17.cell? ⟨w3.heap.size, 1, none⟩ = some (.slice ZA1 M.length Zc1)) := Lib.hid (Mv17.out.cell Q1_16.out (by have s0 := SZ0.out; have s1 := SZ1.out; have s2 := SZ2.out; have s3 := SZ3.out; have s4 := SZ4.out; have s5 := SZ5.out; have s6 := SZ6.out; have s7 := SZ7.out; have s8 := SZ8.out; have s9 := SZ9.out; have s10 := SZ10.out; have s11 := SZ11.out; have s12 := SZ12.out; have s13 := SZ13.out; have s14 := SZ14.out; have s15 := SZ15.out; have s16 := SZ16.out; have s17 := SZ17.out; simp only; omega))
  have S0_17 : Hid (w17.cell? ⟨w7.heap.size, 0, none⟩ = some (.slice YA0 D.length Yc0)) := Lib.hid (Mv17.out.cell S0_16.out (by have s0 := SZ0.out; have s1 := SZ1.out; have s2 := SZ2.out; have s3 := SZ3.out; have s4 := SZ4.out; have s5 := SZ5.out; have s6 := SZ6.out; have s7 := SZ7.out; have s8 := SZ8.out; have s9 := SZ9.out; have s10 := SZ10.out; have s11 := SZ11.out; have s12 := SZ12.out; have s13 := SZ13.out; have s14 := SZ14.out; have s15 := SZ15.out; have s16 := SZ16.out; have s17 := SZ17.out; simp only; omega))
  have S1_17 : Hid (w17.cell? ⟨w7.heap.size, 1, none⟩ = some (.slice YA1 M.length Yc1)) := Lib.hid (Mv17.out.cell S1_16.out (by have s0 := SZ0.out; have s1 := SZ1.out; have s2 := SZ2.out; have s3 := SZ3.out; have s4 := SZ4.out; have s5 := SZ5.out; have s6 := SZ6.out; have s7 := SZ7.out; have s8 := SZ8.out; have s9 := SZ9.out; have s10 := SZ10.out; have s11 := SZ11.out; have s12 := SZ12.out; have s13 := SZ13.out; have s14 := SZ14.out; have s15 := SZ15.out; have s16 := SZ16.out; have s17 := SZ17.out; simp only; omega))
  have HB17 : Hid (Below w.heap.size w w17) := Lib.hid (Mv17.out.below HB16.out (by have s0 := SZ0.out; have s1 := SZ1.out; have s2 := SZ2.out; have s3 := SZ3.out; have s4 := SZ4.out; have s5 := SZ5.out; have s6 := SZ6.out; have s7 := SZ7.out; have s8 := SZ8.out; have s9 := SZ9.out; have s10 := SZ10.out; have s11 := SZ11.out; have s12 := SZ12.out; have s13 := SZ13.out; have s14 := SZ14.out; have s15 := SZ15.out; have s16 := SZ16.out; have s17 := SZ17.out; omega) HB16.out.size)
  have OY0_17 : Hid (OI w17 w6.heap.size (.slice YA0 D.length Yc0) (marks 1 D.length)) := Lib.hid oa; have OY1_17 : Hid (OI w17 w6.heap.size (.slice YA1 M.length Yc1) (marks (1 + D.length) M.length)) := Lib.hid ob; clear oa ob
  have neg2 : ¬ (((1 + D.length + M.length : Nat) : Int) < 0) := by omega
  have qQ0 := Q0_17.out
  have qQ1 := Q1_17.out
  have qS0 := S0_17.out
  have qS1 := S1_17.out
  go_wp2_with fail
  clear qQ0 qQ1 qS0 qS1
  refine (heldBox_any 1 OY0_17.out OY1_17.out (by have h1 := LD.out; have h2 := LM.out; omega)).mono ?_
  rintro e w18 ⟨rfl, g⟩
  have G18 := Lib.hid g; have SZ18 : Hid (w17.heap.size ≤ w18.heap.size) := Lib.hid g.size; clear g
  have OZ0_18 : Hid (OI w18 w2.heap.size (.slice ZA0 D.length Zc0) D) := Lib.hid (OZ0_17.out.bel G18.out)
  have OZ1_18 : Hid (OI w18 w2.heap.size (.slice ZA1 M.length Zc1) M) := Lib.hid (OZ1_17.out.bel G18.out)
  have Q0_18 : Hid (w18.cell? ⟨w3.heap.size, 0, none⟩ = some (.slice ZA0 D.length Zc0)) := Lib.hid (oldcell G18.out Q0_17.out)
  have Q1_18 : Hid (w18.cell? ⟨w3.heap.size, 1, none⟩ = some (.slice ZA1 M.length Zc1)) := Lib.hid (oldcell G18.out Q1_17.out)
  have S0_18 : Hid (w18.cell? ⟨w7.heap.size, 0, none⟩ = some (.slice YA0 D.length Yc0)) := Lib.hid (oldcell G18.out S0_17.out)
  have S1_18 : Hid (w18.cell? ⟨w7.heap.size, 1, none⟩ = some (.slice YA1 M.length Yc1)) := Lib.hid (oldcell G18.out S1_17.out)
  have OY0_18 : Hid (OI w18 w6.heap.size (.slice YA0 D.length Yc0) (marks 1 D.length)) := Lib.hid (OY0_17.out.bel G18.out)
  have OY1_18 : Hid (OI w18 w6.heap.size (.slice YA1 M.length Yc1) (marks (1 + D.length) M.length)) := Lib.hid (OY1_17.out.bel G18.out)
  have HB18 : Hid (Below w.heap.size w w18) := Lib.hid (HB17.out.trans (G18.out.mono HB17.out.size))
  have qQ0 := Q0_18.out
  have qQ1 := Q1_18.out
  have qS0 := S0_18.out
  have qS1 := S1_18.out
  go_wp2_with fail
  clear qQ0 qQ1 qS0 qS1
  refine (toI_oi (H0.out.at (Nat.le_refl _) HB18.out) (Nat.le_refl _) Sd0.out).mono ?_
  rintro e w19 ⟨EA0, rfl, oa, g⟩
  have G19 := Lib.hid g; have SZ19 : Hid (w18.heap.size ≤ w19.heap.size) := Lib.hid g.size; clear g
  have OZ0_19 : Hid (OI w19 w2.heap.size (.slice ZA0 D.length Zc0) D) := Lib.hid (OZ0_18.out.bel G19.out)
  have OZ1_19 : Hid (OI w19 w2.heap.size (.slice ZA1 M.length Zc1) M) := Lib.hid (OZ1_18.out.bel G19.out)
  have Q0_19 : Hid (w19.cell? ⟨w3.heap.size, 0, none⟩ = some (.slice ZA0 D.length Zc0)) := Lib.hid (oldcell G19.out Q0_18.out)
  have Q1_19 : Hid (w19.cell? ⟨w3.heap.size, 1, none⟩ = some (.slice ZA1 M.length Zc1)) := Lib.hid (oldcell G19.out Q1_18.out)
  have S0_19 : Hid (w19.cell? ⟨w7.heap.size, 0, none⟩ = some (.slice YA0 D.length Yc0)) := Lib.hid (oldcell G19.out S0_18.out)
  have S1_19 : Hid (w19.cell? ⟨w7.heap.size, 1, none⟩ = some (.slice YA1 M.length Yc1)) := Lib.hid (oldcell G19.out S1_18.out)
  have OY0_19 : Hid (OI w19 w6.heap.size (.slice YA0 D.length Yc0) (marks 1 D.length)) := Lib.hid (OY0_18.out.bel G19.out)
  have OY1_19 : Hid (OI w19 w6.heap.size (.slice YA1 M.length Yc1) (marks (1 + D.length) M.length)) := Lib.hid (OY1_18.out.bel G19.out)
  have HB19 : Hid (Below w.heap.size w w19) := Lib.hid (HB18.out.trans (G19.out.mono HB18.out.size))
  have OE0_19 : Hid (OI w19 w18.heap.size (.slice EA0 xs0.length xs0.length) xs0) := Lib.hid oa; clear oa
  have IE0 := Lib.hid OE0_19.out.wi
  have qQ0 := Q0_19.out
  have qQ1 := Q1_19.out
  have qS0 := S0_19.out
  have qS1 := S1_19.out
  go_wp2_with fail
  clear qQ0 qQ1 qS0 qS1
  refine (toI_oi (H1.out.at (Nat.le_refl _) HB19.out) (Nat.le_refl _) Sd1.out).mono ?_
  rintro e w20 ⟨EA1, rfl, oa, g⟩
  have G20 := Lib.hid g; have SZ20 : Hid (w19.heap.size ≤ w20.heap.size) := Lib.hid g.size; clear g
  have OZ0_20 : Hid (OI w20 w2.heap.size (.slice ZA0 D.length Zc0) D) := Lib.hid (OZ0_19.out.bel G20.out)
  have OZ1_20 : Hid (OI w20 w2.heap.size (.slice ZA1 M.length Zc1) M) := Lib.hid (OZ1_19.out.bel G20.out)
  have Q0_20 : Hid (w20.cell? ⟨w3.heap.size, 0, none⟩ = some (.slice ZA0 D.length Zc0)) := Lib.hid (oldcell G20.out Q0_19.out)
  have Q1_20 : Hid (w20.cell? ⟨w3.heap.size, 1, none⟩ = some (.slice ZA1 M.length Zc1)) := Lib.hid (oldcell G20.out Q1_19.out)
  have S0_20 : Hid (w20.cell? ⟨w7.heap.size, 0, none⟩ = some (.slice YA0 D.length Yc0)) := Lib.hid (oldcell G20.out S0_19.out)
  have S1_20 : Hid (w20.cell? ⟨w7.heap.size, 1, none⟩ = some (.slice YA1 M.length Yc1)) := Lib.hid (oldcell G20.out S1_19.out)
  have OY0_20 : Hid (OI w20 w6.heap.size (.slice YA0 D.length Yc0) (marks 1 D.length)) := Lib.hid (OY0_19.out.bel G20.out)
  have OY1_20 : Hid (OI w20 w6.heap.size (.slice YA1 M.length Yc1) (marks (1 + D.length) M.length)) := Lib.hid (OY1_19.out.bel G20.out)
  have OE0_20 : Hid (OI w20 w18.heap.size (.slice EA0 xs0.length xs0.length) xs0) := Lib.hid (OE0_19.out.bel G20.out)
  have HB20 : Hid (Below w.heap.size w w20) := Lib.hid (HB19.out.trans (G20.out.mono HB19.out.size))
  have OE1_20 : Hid (OI w20 w19.heap.size (.slice EA1 xs1.length xs1.length) xs1) := Lib.hid oa; clear oa
  have IE1 := Lib.hid OE1_20.out.wi
  have qQ0 := Q0_20.out
  have qQ1 := Q1_20.out
  have qS0 := S0_20.out
  have qS1 := S1_20.out
  go_wp2_with fail
  clear qQ0 qQ1 qS0 qS1
  refine (pAns HD.out HM.out HE.out (OE0_20.out.ri H0.out.inI) (OE1_20.out.ri H1.out.inI) (Nat.le_refl _)).mono ?_
  rintro e w21 ⟨CA0, CA1, Cc0, Cc1, rfl, oa, ob, hap, g⟩
  have G21 := Lib.hid g; have SZ21 : Hid (w20.heap.size ≤ w21.heap.size) := Lib.hid g.size; clear g
  have OZ0_21 : Hid (OI w21 w2.heap.size (.slice ZA0 D.length Zc0) D) := Lib.hid (OZ0_20.out.bel G21.out)
  have OZ1_21 : Hid (OI w21 w2.heap.size (.slice ZA1 M.length Zc1) M) := Lib.hid (OZ1_20.out.bel G21.out)
  have Q0_21 : Hid (w21.cell? ⟨w3.heap.size, 0, none⟩ = some (.slice ZA0 D.length Zc0)) := Lib.hid (oldcell G21.out Q0_20.out)
  have Q1_21 : Hid (w21.cell? ⟨w3.heap.size, 1, none⟩ = some (.slice ZA1 M.length Zc1)) := Lib.hid (oldcell G21.out Q1_20.out)
  have S0_21 : Hid (w21.cell? ⟨w7.heap.size, 0, none⟩ = some (.slice YA0 D.length Yc0)) := Lib.hid (oldcell G21.out S0_20.out)
  have S1_21 : Hid (w21.cell? ⟨w7.heap.size, 1, none⟩ = some (.slice YA1 M.length Yc1)) := Lib.hid (oldcell G21.out S1_20.out)
  have OY0_21 : Hid (OI w21 w6.heap.size (.slice YA0 D.length Yc0) (marks 1 D.length)) := Lib.hid (OY0_20.out.bel G21.out)
  have OY1_21 : Hid (OI w21 w6.heap.size (.slice YA1 M.length Yc1) (marks (1 + D.length) M.length)) := Lib.hid (OY1_20.out.bel G21.out)
  have OE0_21 : Hid (OI w21 w18.heap.size (.slice EA0 xs0.length xs0.length) xs0) := Lib.hid (OE0_20.out.bel G21.out)
  have OE1_21 : Hid (OI w21 w19.heap.size (.slice EA1 xs1.length xs1.length) xs1) := Lib.hid (OE1_20.out.bel G21.out)
  have HB21 : Hid (Below w.heap.size w w21) := Lib.hid (HB20.out.trans (G21.out.mono HB20.out.size))
  have OC0_21 : Hid (OI w21 w20.heap.size (.slice CA0 D.length Cc0) D) := Lib.hid oa; clear oa
  have OC1_21 : Hid (OI w21 w20.heap.size (.slice CA1 M.length Cc1) M) := Lib.hid ob; clear ob
  have XC := Lib.hid hap; clear hap
  have IC0 := Lib.hid OC0_21.out.wi; have IC1 := Lib.hid OC1_21.out.wi
  have G22 : Hid (Below w21.heap.size w21 (w21.alloc (.cells #[.slice CA0 D.length Cc0, .slice CA1 M.length Cc1] 32))) := Lib.hid ((Below.refl _ _).alloc (Nat.le_refl _) _)
  have SZ22 : Hid (w21.heap.size + 1 ≤ (w21.alloc (.cells #[.slice CA0 D.length Cc0, .slice CA1 M.length Cc1] 32)).heap.size) := Lib.hid (by simp)
  have OZ0_22 : Hid (OI (w21.alloc (.cells #[.slice CA0 D.length Cc0, .slice CA1 M.length Cc1] 32)) w2.heap.size (.slice ZA0 D.length Zc0) D) := Lib.hid (OZ0_21.out.bel G22.out)
  have OZ1_22 : Hid (OI (w21.alloc (.cells #[.slice CA0 D.length Cc0, .slice CA1 M.length Cc1] 32)) w2.heap.size (.slice ZA1 M.length Zc1) M) := Lib.hid (OZ1_21.out.bel G22.out)
  have Q0_22 : Hid ((w21.alloc (.cells #[.slice CA0 D.length Cc0, .slice CA1 M.length Cc1] 32)).cell? ⟨w3.heap.size, 0, none⟩ = some (.slice ZA0 D.length Zc0)) := Lib.hid (oldcell G22.out Q0_21.out)
  have Q1_22 : Hid ((w21.alloc (.cells #[.slice CA0 D.length Cc0, .slice CA1 M.length Cc1] 32)).cell? ⟨w3.heap.size, 1, none⟩ = some (.slice ZA1 M.length Zc1)) := Lib.hid (oldcell G22.out Q1_21.out)
  have S0_22 : Hid ((w21.alloc (.cells #[.slice CA0 D.length Cc0, .slice CA1 M.length Cc1] 32)).cell? ⟨w7.heap.size, 0, none⟩ = some (.slice YA0 D.length Yc0)) := Lib.hid (oldcell G22.out S0_21.out)
  have S1_22 : Hid ((w21.alloc (.cells #[.slice CA0 D.length Cc0, .slice CA1 M.length Cc1] 32)).cell? ⟨w7.heap.size, 1, none⟩ = some (.slice YA1 M.length Yc1)) := Lib.hid (oldcell G22.out S1_21.out)
  have OY0_22 : Hid (OI (w21.alloc (.cells #[.slice CA0 D.length Cc0, .slice CA1 M.length Cc1] 32)) w6.heap.size (.slice YA0 D.length Yc0) (marks 1 D.length)) := Lib.hid (OY0_21.out.bel G22.out)
  have OY1_22 : Hid (OI (w21.alloc (.cells #[.slice CA0 D.length Cc0, .slice CA1 M.length Cc1] 32)) w6.heap.size (.slice YA1 M.length Yc1) (marks (1 + D.length) M.length)) := Lib.hid (OY1_21.out.bel G22.out)
  have OC0_22 : Hid (OI (w21.alloc (.cells #[.slice CA0 D.length Cc0, .slice CA1 M.length Cc1] 32)) w20.heap.size (.slice CA0 D.length Cc0) D) := Lib.hid (OC0_21.out.bel G22.out)
  have OC1_22 : Hid (OI (w21.alloc (.cells #[.slice CA0 D.length Cc0, .slice CA1 M.length Cc1] 32)) w20.heap.size (.slice CA1 M.length Cc1) M) := Lib.hid (OC1_21.out.bel G22.out)
  have HB22 : Hid (Below w.heap.size w (w21.alloc (.cells #[.slice CA0 D.length Cc0, .slice CA1 M.length Cc1] 32))) := Lib.hid (HB21.out.trans (G22.out.mono HB21.out.size))
  have J0_22 : Hid ((w21.alloc (.cells #[.slice CA0 D.length Cc0, .slice CA1 M.length Cc1] 32)).cell? ⟨w21.heap.size, 0, none⟩ = some (.slice CA0 D.length Cc0)) := Lib.hid (by rw [cell_of_row _ _ _ _ _ _ (heap_alloc_new w21 _)]; rfl)
  have J1_22 : Hid ((w21.alloc (.cells #[.slice CA0 D.length Cc0, .slice CA1 M.length Cc1] 32)).cell? ⟨w21.heap.size, 1, none⟩ = some (.slice CA1 M.length Cc1)) := Lib.hid (by rw [cell_of_row _ _ _ _ _ _ (heap_alloc_new w21 _)]; rfl)
  have qQ0 := Q0_22.out
  have qQ1 := Q1_22.out
  have qS0 := S0_22.out
  have qS1 := S1_22.out
  have qJ0 := J0_22.out
  have qJ1 := J1_22.out
  go_wp2_with fail
  clear qQ0 qQ1 qS0 qS1 qJ0 qJ1
  generalize (w21.alloc (.cells #[.slice CA0 D.length Cc0, .slice CA1 M.length Cc1] 32)) = w22 at *
  refine (eqBox_any (OC0_22.out.ri ID.out) (OC1_22.out.ri IM.out) (OZ0_22.out.ri ID.out) (OZ1_22.out.ri IM.out) (Nat.le_refl _)).mono ?_
  rintro e w23 ⟨rfl, g⟩
  have G23 := Lib.hid g; have SZ23 : Hid (w22.heap.size ≤ w23.heap.size) := Lib.hid g.size; clear g
  have OZ0_23 : Hid (OI w23 w2.heap.size (.slice ZA0 D.length Zc0) D) := Lib.hid (OZ0_22.out.bel G23.out)
  have OZ1_23 : Hid (OI w23 w2.heap.size (.slice ZA1 M.length Zc1) M) := Lib.hid (OZ1_22.out.bel G23.out)
  have Q0_23 : Hid (w23.cell? ⟨w3.heap.size, 0, none⟩ = some (.slice ZA0 D.length Zc0)) := Lib.hid (oldcell G23.out Q0_22.out)
  have Q1_23 : Hid (w23.cell? ⟨w3.heap.size, 1, none⟩ = some (.slice ZA1 M.length Zc1)) := Lib.hid (oldcell G23.out Q1_22.out)
  have S0_23 : Hid (w23.cell? ⟨w7.heap.size, 0, none⟩ = some (.slice YA0 D.length Yc0)) := Lib.hid (oldcell G23.out S0_22.out)
  have S1_23 : Hid (w23.cell? ⟨w7.heap.size, 1, none⟩ = some (.slice YA1 M.length Yc1)) := Lib.hid (oldcell G23.out S1_22.out)
  have OY0_23 : Hid (OI w23 w6.heap.size (.slice YA0 D.length Yc0) (marks 1 D.length)) := Lib.hid (OY0_22.out.bel G23.out)
  have OY1_23 : Hid (OI w23 w6.heap.size (.slice YA1 M.length Yc1) (marks (1 + D.length) M.length)) := Lib.hid (OY1_22.out.bel G23.out)
  have OC0_23 : Hid (OI w23 w20.heap.size (.slice CA0 D.length Cc0) D) := Lib.hid (OC0_22.out.bel G23.out)
  have OC1_23 : Hid (OI w23 w20.heap.size (.slice CA1 M.length Cc1) M) := Lib.hid (OC1_22.out.bel G23.out)
  have J0_23 : Hid (w23.cell? ⟨w21.heap.size, 0, none⟩ = some (.slice CA0 D.length Cc0)) := Lib.hid (oldcell G23.out J0_22.out)
  have J1_23 : Hid (w23.cell? ⟨w21.heap.size, 1, none⟩ = some (.slice CA1 M.length Cc1)) := Lib.hid (oldcell G23.out J1_22.out)
  have HB23 : Hid (Below w.heap.size w w23) := Lib.hid (HB22.out.trans (G23.out.mono HB22.out.size))
  have qQ0 := Q0_23.out
  have qQ1 := Q1_23.out
  have qS0 := S0_23.out
  have qS1 := S1_23.out
  have qJ0 := J0_23.out
  have qJ1 := J1_23.out
  go_wp2_with fail
  clear qQ0 qQ1 qS0 qS1 qJ0 qJ1
  refine (heldBox_any 1 OY0_23.out OY1_23.out (by have h1 := LD.out; have h2 := LM.out; omega)).mono ?_
  rintro e w24 ⟨rfl, g⟩
  have G24 := Lib.hid g; have SZ24 : Hid (w23.heap.size ≤ w24.heap.size) := Lib.hid g.size; clear g
  have OZ0_24 : Hid (OI w24 w2.heap.size (.slice ZA0 D.length Zc0) D) := Lib.hid (OZ0_23.out.bel G24.out)
  have OZ1_24 : Hid (OI w24 w2.heap.size (.slice ZA1 M.length Zc1) M) := Lib.hid (OZ1_23.out.bel G24.out)
  have Q0_24 : Hid (w24.cell? ⟨w3.heap.size, 0, none⟩ = some (.slice ZA0 D.length Zc0)) := Lib.hid (oldcell G24.out Q0_23.out)
  have Q1_24 : Hid (w24.cell? ⟨w3.heap.size, 1, none⟩ = some (.slice ZA1 M.length Zc1)) := Lib.hid (oldcell G24.out Q1_23.out)
  have S0_24 : Hid (w24.cell? ⟨w7.heap.size, 0, none⟩ = some (.slice YA0 D.length Yc0)) := Lib.hid (oldcell G24.out S0_23.out)
  have S1_24 : Hid (w24.cell? ⟨w7.heap.size, 1, none⟩ = some (.slice YA1 M.length Yc1)) := Lib.hid (oldcell G24.out S1_23.out)
  have OY0_24 : Hid (OI w24 w6.heap.size (.slice YA0 D.length Yc0) (marks 1 D.length)) := Lib.hid (OY0_23.out.bel G24.out)
  have OY1_24 : Hid (OI w24 w6.heap.size (.slice YA1 M.length Yc1) (marks (1 + D.length) M.length)) := Lib.hid (OY1_23.out.bel G24.out)
  have OC0_24 : Hid (OI w24 w20.heap.size (.slice CA0 D.length Cc0) D) := Lib.hid (OC0_23.out.bel G24.out)
  have OC1_24 : Hid (OI w24 w20.heap.size (.slice CA1 M.length Cc1) M) := Lib.hid (OC1_23.out.bel G24.out)
  have J0_24 : Hid (w24.cell? ⟨w21.heap.size, 0, none⟩ = some (.slice CA0 D.length Cc0)) := Lib.hid (oldcell G24.out J0_23.out)
  have J1_24 : Hid (w24.cell? ⟨w21.heap.size, 1, none⟩ = some (.slice CA1 M.length Cc1)) := Lib.hid (oldcell G24.out J1_23.out)
  have HB24 : Hid (Below w.heap.size w w24) := Lib.hid (HB23.out.trans (G24.out.mono HB23.out.size))
  have qQ0 := Q0_24.out
  have qQ1 := Q1_24.out
  have qS0 := S0_24.out
  have qS1 := S1_24.out
  have qJ0 := J0_24.out
  have qJ1 := J1_24.out
  go_wp2_with fail
  clear qQ0 qQ1 qS0 qS1 qJ0 qJ1
  go_ret
  exact ⟨rfl, HB24.out⟩
theorem own : ownKnob Try.prog.godebug = none := by kernel_rfl
theorem laidOut : laidOutB Try.prog = true := by kernel_rfl
set_option maxRecDepth 100000 in
theorem lifted (os : Os) (started : os.Started) (H : Type) (enc : TypeId × Value → H) :
    ReturnsInHanded {} Try.checked os 8 .any (Rows.fnExactChunkBoxSpec.pre6 enc Try.prog Try.f8 Rows.fnExactChunkBoxRow.domain false) (Rows.fnExactChunkBoxSpec.post enc Try.prog Try.f8 false true false false) := by
  refine returnsInHanded_of_change (C := Try.checked) own started (by kernel_rfl) Try.func8
    (ChangeSpec.witness6 (enc := enc) (C := Try.checked) false ⟨#[], #[.slice none 0 0, .slice none 0 0, .int .i64 0], []⟩ 8 (by kernel_rfl) (by kernel_rfl) (by kernel_rfl) (by kernel_rfl)) ?_
  intro W base args ds gs before hval0 hW hcnd _
  have hval : ∀ (j : Nat) t v, Try.f8.params[j]? = some t → args[j]? = some v → Value.okWide Try.prog W .any base t v := hval0
  have hW' := hW
  obtain ⟨p, q, hA0, hV, rfl, hfz, hnd⟩ := hW
  have hA : DataW.TrodAll enc Try.prog W 0 (fun _ => true) true Try.f8.params.toList args.toList ds p := hA0
  rw [Try.params8] at hA hval
  obtain ⟨v0, vs0, d0, ds0, p0, q0, hargs, rfl, rfl, h0, r0⟩ := trodAll_cons hA
  obtain ⟨v1, vs1, d1, ds1, p1, q1, rfl, rfl, rfl, h1, r1⟩ := trodAll_cons r0
  obtain ⟨v2, vs2, d2, ds2, p2, q2, rfl, rfl, rfl, h2, r2⟩ := trodAll_cons r1
  obtain ⟨rfl, rfl, rfl⟩ := trodAll_nil r2
  obtain rfl : args = #[v0, v1, v2] := by cases args; simp_all
  obtain ⟨rfl, rfl⟩ := trodVars_none hV
  have k0 := h0
  have lt0 : ∀ x ∈ p0, x.block < W.heap.size := by obtain ⟨m, hm⟩ := k0; exact DataW.trod_lt m _ _ _ hm
  obtain ⟨xs0, g0⟩ := open_i (hval 0 22 v0 rfl rfl) h0
  have k1 := h1
  have lt1 : ∀ x ∈ p1, x.block < W.heap.size := by obtain ⟨m, hm⟩ := k1; exact DataW.trod_lt m _ _ _ hm
  obtain ⟨xs1, g1⟩ := open_i (hval 1 22 v1 rfl rfl) h1
  obtain ⟨a2, rfl, rfl, rfl, g2⟩ := open_int Try.underlying2 (hval 2 2 v2 rfl rfl) h2
  clear hA0 hval0
  refine (walk W _ _ _ _ _ g0 g1 g2).mono fun e W' ⟨he, bel⟩ => ?_
  subst he
  exact ⟨_, rfl, _, _, _, [], _, [], hW', (trodAll_cons_mk (shut_bool Try.underlying4 _) trodAll_mk0), (trodAll_cons_mk (Below.trod laidOut (by kernel_rfl) (of_decide_eq_true (by kernel_rfl)) k0 bel lt0) (trodAll_cons_mk (Below.trod laidOut (by kernel_rfl) (of_decide_eq_true (by kernel_rfl)) k1 bel lt1) (trodAll_cons_mk (shut_int Try.underlying2 g2) trodAll_mk0))), rfl, bel.frame _, fun h => by cases h⟩
theorem closed : joinedFacts Try.pinned.checked.prog 8 Try.f8 Rows.fnExactChunkBoxSpec Rows.fnExactChunkBoxRow = true := by
  unfold joinedFacts
  rw [mayE, lifF, mkP]
  kernel_rfl
theorem over : Rows.fnExactChunkBoxRow.holds Try.pinned (OpenSpec.ofChange Rows.fnExactChunkBoxSpec) :=
  OpenClaim.holds_of_wide 8 Try.f8 rfl rfl rfl rfl rfl rfl rfl ⟨rfl, rfl, rfl, rfl, rfl⟩ rfl rfl rfl rfl rfl (by kernel_rfl) Try.func8 closed
    (of_decide_eq_true (by kernel_rfl)) (by unfold Func.isWrapper; rw [if_neg (of_decide_eq_false (by kernel_rfl))]; exact ⟨rfl, rfl⟩)
    (fun os started H enc _ => lifted os started H enc)
theorem proved : Rows.FnExactChunkBoxSaid := over
end Go.Proofs.Ytmghbgnalkkppaa.fnExactChunkBox
