/- The statement of the law FnExactChunkKeys: whatever the input, the program's function answers as the model's, and the input reads as it did. Its conditions are the given statement's own; nothing is added. -/
import Derived.Test.YtmghbgnalkkppaaJf
import Derived.Test.YtmghbgnalkkppaaJf
import Derived.Test.YtmghbgnalkkppaaFrmI
import Derived.Test.YtmghbgnalkkppaaMrS
import Derived.Test.YtmghbgnalkkppaaTlF
import Derived.ProofKit
import Derived.OpenShut
import Derived.ShutString
import Derived.ChangeOld
import Derived.Below
import Derived.Deep.DeepFit
import Derived.Deep.WholeRow
import Derived.Deep.RegionHeld3
namespace Go.Proofs.Ytmghbgnalkkppaa.fnExactChunkKeys
open Go.ChangeShapes Go.WideShapes Go.ChangeAt Go.RowKit
open Go.ChangeMaps (open_string shut_string)
set_option linter.unusedVariables false
theorem toI_oi {B : Nat} {w : World} {v : Value} {xs : List Int} (h : Ri B w v xs) (hB : B ≤ w.heap.size) (hs : xs.length ≤ 1048576) :
    Calls Try.prog 12 #[v] w fun e w' => ∃ A1 : Option Addr, e = .returned (.slice A1 xs.length xs.length) ∧ OI w' w.heap.size (.slice A1 xs.length xs.length) xs ∧ Below w.heap.size w w' :=
  (toI_any h hB hs).mono fun e w' ⟨he, r, _, g⟩ => ⟨_, he, OI.of_row r (Nat.le_refl _) (by unfold maxLen; omega), g⟩
theorem oi_opened {w : World} {lo : Nat} {v : Value} {xs : List Int} (h : OI w lo v xs) : ∃ A c, v = .slice A xs.length c := by
  rcases h.slice with ⟨rfl, rfl⟩ | ⟨g, c, rfl, -⟩
  · exact ⟨none, 0, rfl⟩
  · exact ⟨_, c, rfl⟩
theorem sAns {B : Nat} {w : World} {v0 : Value} {xs0 : List Int} {v1 : Value} {xs1 : List Int} {D : List Int} (hD : (keysE xs0 xs1) = D) (h0 : Ri B w v0 xs0) (h1 : Ri B w v1 xs1)  (hB : B ≤ w.heap.size) : Calls Try.prog 21 #[v0, v1] w (MadeO D w) := by
  subst hD; exact specChunkKeys_any  h0 h1 hB
theorem pAns {B : Nat} {w : World} {v0 : Value} {xs0 : List Int} {v1 : Value} {xs1 : List Int} {D : List Int} (hD : (keysE xs0 xs1) = D) (h0 : Ri B w v0 xs0) (h1 : Ri B w v1 xs1)  (hB : B ≤ w.heap.size) : Calls Try.prog 22 #[v0, v1] w (MadeO D w) := by
  subst hD; exact implChunkKeys_any  h0 h1 hB
set_option maxHeartbeats 8000000 in
set_option maxRecDepth 100000 in
theorem walk (w : World) (v0 : Value) (xs0 : List Int) (v1 : Value) (xs1 : List Int) (h0 : Ri w.heap.size w v0 xs0) (h1 : Ri w.heap.size w v1 xs1) :
    Calls Try.prog 6 #[v0, v1] w (GivesB (.bool true) w) := by
  have H0 := Lib.hid h0
  obtain ⟨A0, c0, rfl, _, hc0, _⟩ := h0
  unfold maxLen at hc0
  have H1 := Lib.hid h1
  obtain ⟨A1, c1, rfl, _, hc1, _⟩ := h1
  unfold maxLen at hc1
  by_cases big0 : 1048576 < xs0.length
  · have big0' : decide ((1048576 : Int) < (xs0.length : Int)) = true := decide_eq_true (by omega)
    go_enter Try.func6, Try.ntmps6
    go_wp2_with fail
    go_ret
    exact ⟨rfl, Below.refl _ _⟩
  have small0 : decide ((1048576 : Int) < (xs0.length : Int)) = false := decide_eq_false (by omega)
  have Sd0 : Hid (xs0.length ≤ 1048576) := Lib.hid (by omega)
  by_cases big1 : 1048576 < xs1.length
  · have big1' : decide ((1048576 : Int) < (xs1.length : Int)) = true := decide_eq_true (by omega)
    go_enter Try.func6, Try.ntmps6
    go_wp2_with fail
    go_ret
    exact ⟨rfl, Below.refl _ _⟩
  have small1 : decide ((1048576 : Int) < (xs1.length : Int)) = false := decide_eq_false (by omega)
  have Sd1 : Hid (xs1.length ≤ 1048576) := Lib.hid (by omega)
  obtain ⟨D, hD⟩ : ∃ D, (keysE xs0 xs1) = D := ⟨_, rfl⟩
  have HD := Lib.hid hD
  have ID : Hid (∀ x ∈ D, InI x) := Lib.hid (hD ▸ (keysE_in _ _))
  have LD : Hid (D.length ≤ 1048576) := Lib.hid (hD ▸ (keysE_len _ _))
  clear hD
  have HB0 : Hid (Below w.heap.size w w) := Lib.hid (Below.refl _ _)
  have SZ0 : Hid (w.heap.size ≤ w.heap.size) := Lib.hid (Nat.le_refl _)
  go_enter Try.func6, Try.ntmps6
  go_wp2_with fail
  refine (toI_oi (H0.out.at (Nat.le_refl _) HB0.out) (Nat.le_refl _) Sd0.out).mono ?_
  rintro e w1 ⟨TA0, rfl, oa, g⟩
  have G1 := Lib.hid g; have SZ1 : Hid (w.heap.size ≤ w1.heap.size) := Lib.hid g.size; clear g
  have HB1 : Hid (Below w.heap.size w w1) := Lib.hid (HB0.out.trans (G1.out.mono HB0.out.size))
  have OT0_1 : Hid (OI w1 w.heap.size (.slice TA0 xs0.length xs0.length) xs0) := Lib.hid oa; clear oa
  have IT0 := Lib.hid OT0_1.out.wi
  go_wp2_with fail
  refine (toI_oi (H1.out.at (Nat.le_refl _) HB1.out) (Nat.le_refl _) Sd1.out).mono ?_
  rintro e w2 ⟨TA1, rfl, oa, g⟩
  have G2 := Lib.hid g; have SZ2 : Hid (w1.heap.size ≤ w2.heap.size) := Lib.hid g.size; clear g
  have OT0_2 : Hid (OI w2 w.heap.size (.slice TA0 xs0.length xs0.length) xs0) := Lib.hid (OT0_1.out.bel G2.out)
  have HB2 : Hid (Below w.heap.size w w2) := Lib.hid (HB1.out.trans (G2.out.mono HB1.out.size))
  have OT1_2 : Hid (OI w2 w1.heap.size (.slice TA1 xs1.length xs1.length) xs1) := Lib.hid oa; clear oa
  have IT1 := Lib.hid OT1_2.out.wi
  go_wp2_with fail
  refine (sAns HD.out (OT0_2.out.ri H0.out.inI) (OT1_2.out.ri H1.out.inI)  (Nat.le_refl _)).mono ?_
  rintro e w3 ⟨Zv, rfl, oa, g⟩
  have G3 := Lib.hid g; have SZ3 : Hid (w2.heap.size ≤ w3.heap.size) := Lib.hid g.size; clear g
  have OT0_3 : Hid (OI w3 w.heap.size (.slice TA0 xs0.length xs0.length) xs0) := Lib.hid (OT0_2.out.bel G3.out)
  have OT1_3 : Hid (OI w3 w1.heap.size (.slice TA1 xs1.length xs1.length) xs1) := Lib.hid (OT1_2.out.bel G3.out)
  have HB3 : Hid (Below w.heap.size w w3) := Lib.hid (HB2.out.trans (G3.out.mono HB2.out.size))
  obtain ⟨ZA, Zc, rfl⟩ := oi_opened oa
  have OZ_3 : Hid (OI w3 w2.heap.size (.slice ZA D.length Zc) D) := Lib.hid oa; clear oa
  have IZ := Lib.hid OZ_3.out.wi
  go_wp2_with fail
  refine (toI_oi (H0.out.at (Nat.le_refl _) HB3.out) (Nat.le_refl _) Sd0.out).mono ?_
  rintro e w4 ⟨VA0, rfl, oa, g⟩
  have G4 := Lib.hid g; have SZ4 : Hid (w3.heap.size ≤ w4.heap.size) := Lib.hid g.size; clear g
  have OZ_4 : Hid (OI w4 w2.heap.size (.slice ZA D.length Zc) D) := Lib.hid (OZ_3.out.bel G4.out)
  have HB4 : Hid (Below w.heap.size w w4) := Lib.hid (HB3.out.trans (G4.out.mono HB3.out.size))
  have OV0_4 : Hid (OI w4 w3.heap.size (.slice VA0 xs0.length xs0.length) xs0) := Lib.hid oa; clear oa
  have IV0 := Lib.hid OV0_4.out.wi
  go_wp2_with fail
  refine (toI_oi (H1.out.at (Nat.le_refl _) HB4.out) (Nat.le_refl _) Sd1.out).mono ?_
  rintro e w5 ⟨VA1, rfl, oa, g⟩
  have G5 := Lib.hid g; have SZ5 : Hid (w4.heap.size ≤ w5.heap.size) := Lib.hid g.size; clear g
  have OZ_5 : Hid (OI w5 w2.heap.size (.slice ZA D.length Zc) D) := Lib.hid (OZ_4.out.bel G5.out)
  have OV0_5 : Hid (OI w5 w3.heap.size (.slice VA0 xs0.length xs0.length) xs0) := Lib.hid (OV0_4.out.bel G5.out)
  have HB5 : Hid (Below w.heap.size w w5) := Lib.hid (HB4.out.trans (G5.out.mono HB4.out.size))
  have OV1_5 : Hid (OI w5 w4.heap.size (.slice VA1 xs1.length xs1.length) xs1) := Lib.hid oa; clear oa
  have IV1 := Lib.hid OV1_5.out.wi
  go_wp2_with fail
  refine (pAns HD.out (OV0_5.out.ri H0.out.inI) (OV1_5.out.ri H1.out.inI)  (Nat.le_refl _)).mono ?_
  rintro e w6 ⟨Yv, rfl, oa, g⟩
  have G6 := Lib.hid g; have SZ6 : Hid (w5.heap.size ≤ w6.heap.size) := Lib.hid g.size; clear g
  have OZ_6 : Hid (OI w6 w2.heap.size (.slice ZA D.length Zc) D) := Lib.hid (OZ_5.out.bel G6.out)
  have OV0_6 : Hid (OI w6 w3.heap.size (.slice VA0 xs0.length xs0.length) xs0) := Lib.hid (OV0_5.out.bel G6.out)
  have OV1_6 : Hid (OI w6 w4.heap.size (.slice VA1 xs1.length xs1.length) xs1) := Lib.hid (OV1_5.out.bel G6.out)
  have HB6 : Hid (Below w.heap.size w w6) := Lib.hid (HB5.out.trans (G6.out.mono HB5.out.size))
  obtain ⟨YA, Yc, rfl⟩ := oi_opened oa
  have OY_6 : Hid (OI w6 w5.heap.size (.slice YA D.length Yc) D) := Lib.hid oa; clear oa
  have IY := Lib.hid OY_6.out.wi
  go_wp2_with fail
  refine (eqI_any (OY_6.out.ri ID.out) (OZ_6.out.ri ID.out) (Nat.le_refl _)).mono ?_
  rintro e w7 ⟨rfl, g⟩
  have G7 := Lib.hid g; have SZ7 : Hid (w6.heap.size ≤ w7.heap.size) := Lib.hid g.size; clear g
  have OZ_7 : Hid (OI w7 w2.heap.size (.slice ZA D.length Zc) D) := Lib.hid (OZ_6.out.bel G7.out)
  have OV0_7 : Hid (OI w7 w3.heap.size (.slice VA0 xs0.length xs0.length) xs0) := Lib.hid (OV0_6.out.bel G7.out)
  have OV1_7 : Hid (OI w7 w4.heap.size (.slice VA1 xs1.length xs1.length) xs1) := Lib.hid (OV1_6.out.bel G7.out)
  have OY_7 : Hid (OI w7 w5.heap.size (.slice YA D.length Yc) D) := Lib.hid (OY_6.out.bel G7.out)
  have HB7 : Hid (Below w.heap.size w w7) := Lib.hid (HB6.out.trans (G7.out.mono HB6.out.size))
  go_wp2_with fail
  refine (toI_oi (H0.out.at (Nat.le_refl _) HB7.out) (Nat.le_refl _) Sd0.out).mono ?_
  rintro e w8 ⟨NA0, rfl, oa, g⟩
  have G8 := Lib.hid g; have SZ8 : Hid (w7.heap.size ≤ w8.heap.size) := Lib.hid g.size; clear g
  have OZ_8 : Hid (OI w8 w2.heap.size (.slice ZA D.length Zc) D) := Lib.hid (OZ_7.out.bel G8.out)
  have OV0_8 : Hid (OI w8 w3.heap.size (.slice VA0 xs0.length xs0.length) xs0) := Lib.hid (OV0_7.out.bel G8.out)
  have OV1_8 : Hid (OI w8 w4.heap.size (.slice VA1 xs1.length xs1.length) xs1) := Lib.hid (OV1_7.out.bel G8.out)
  have OY_8 : Hid (OI w8 w5.heap.size (.slice YA D.length Yc) D) := Lib.hid (OY_7.out.bel G8.out)
  have HB8 : Hid (Below w.heap.size w w8) := Lib.hid (HB7.out.trans (G8.out.mono HB7.out.size))
  have ON0_8 : Hid (OI w8 w7.heap.size (.slice NA0 xs0.length xs0.length) xs0) := Lib.hid oa; clear oa
  have IN0 := Lib.hid ON0_8.out.wi
  go_wp2_with fail
  refine (eqI_any (OV0_8.out.ri H0.out.inI) (ON0_8.out.ri H0.out.inI) (Nat.le_refl _)).mono ?_
  rintro e w9 ⟨rfl, g⟩
  have G9 := Lib.hid g; have SZ9 : Hid (w8.heap.size ≤ w9.heap.size) := Lib.hid g.size; clear g
  have OZ_9 : Hid (OI w9 w2.heap.size (.slice ZA D.length Zc) D) := Lib.hid (OZ_8.out.bel G9.out)
  have OV0_9 : Hid (OI w9 w3.heap.size (.slice VA0 xs0.length xs0.length) xs0) := Lib.hid (OV0_8.out.bel G9.out)
  have OV1_9 : Hid (OI w9 w4.heap.size (.slice VA1 xs1.length xs1.length) xs1) := Lib.hid (OV1_8.out.bel G9.out)
  have OY_9 : Hid (OI w9 w5.heap.size (.slice YA D.length Yc) D) := Lib.hid (OY_8.out.bel G9.out)
  have ON0_9 : Hid (OI w9 w7.heap.size (.slice NA0 xs0.length xs0.length) xs0) := Lib.hid (ON0_8.out.bel G9.out)
  have HB9 : Hid (Below w.heap.size w w9) := Lib.hid (HB8.out.trans (G9.out.mono HB8.out.size))
  go_wp2_with fail
  refine (toI_oi (H1.out.at (Nat.le_refl _) HB9.out) (Nat.le_refl _) Sd1.out).mono ?_
  rintro e w10 ⟨NA1, rfl, oa, g⟩
  have G10 := Lib.hid g; have SZ10 : Hid (w9.heap.size ≤ w10.heap.size) := Lib.hid g.size; clear g
  have OZ_10 : Hid (OI w10 w2.heap.size (.slice ZA D.length Zc) D) := Lib.hid (OZ_9.out.bel G10.out)
  have OV0_10 : Hid (OI w10 w3.heap.size (.slice VA0 xs0.length xs0.length) xs0) := Lib.hid (OV0_9.out.bel G10.out)
  have OV1_10 : Hid (OI w10 w4.heap.size (.slice VA1 xs1.length xs1.length) xs1) := Lib.hid (OV1_9.out.bel G10.out)
  have OY_10 : Hid (OI w10 w5.heap.size (.slice YA D.length Yc) D) := Lib.hid (OY_9.out.bel G10.out)
  have HB10 : Hid (Below w.heap.size w w10) := Lib.hid (HB9.out.trans (G10.out.mono HB9.out.size))
  have ON1_10 : Hid (OI w10 w9.heap.size (.slice NA1 xs1.length xs1.length) xs1) := Lib.hid oa; clear oa
  have IN1 := Lib.hid ON1_10.out.wi
  go_wp2_with fail
  refine (eqI_any (OV1_10.out.ri H1.out.inI) (ON1_10.out.ri H1.out.inI) (Nat.le_refl _)).mono ?_
  rintro e w11 ⟨rfl, g⟩
  have G11 := Lib.hid g; have SZ11 : Hid (w10.heap.size ≤ w11.heap.size) := Lib.hid g.size; clear g
  have OZ_11 : Hid (OI w11 w2.heap.size (.slice ZA D.length Zc) D) := Lib.hid (OZ_10.out.bel G11.out)
  have OV0_11 : Hid (OI w11 w3.heap.size (.slice VA0 xs0.length xs0.length) xs0) := Lib.hid (OV0_10.out.bel G11.out)
  have OV1_11 : Hid (OI w11 w4.heap.size (.slice VA1 xs1.length xs1.length) xs1) := Lib.hid (OV1_10.out.bel G11.out)
  have OY_11 : Hid (OI w11 w5.heap.size (.slice YA D.length Yc) D) := Lib.hid (OY_10.out.bel G11.out)
  have ON1_11 : Hid (OI w11 w9.heap.size (.slice NA1 xs1.length xs1.length) xs1) := Lib.hid (ON1_10.out.bel G11.out)
  have HB11 : Hid (Below w.heap.size w w11) := Lib.hid (HB10.out.trans (G11.out.mono HB10.out.size))
  go_wp2_with fail
  refine (markI_any OV0_11.out (1) (by have h2 := Sd0.out; have h3 := Sd1.out; omega)).mono ?_
  rintro e w12 ⟨rfl, _, gg⟩
  have Mv12 : Hid (Mv w3.heap.size w4.heap.size w11 w12) := Lib.hid (Mv.grown gg IV0.out)
  have SZ12 : Hid (w11.heap.size ≤ w12.heap.size) := Lib.hid Mv12.out.2.2.2.1
  have OZ_12 : Hid (OI w12 w2.heap.size (.slice ZA D.length Zc) D) := Lib.hid (OZ_11.out.mv Mv12.out (fun g hg => by have := IZ.out g hg; have s0 := SZ0.out; have s1 := SZ1.out; have s2 := SZ2.out; have s3 := SZ3.out; have s4 := SZ4.out; have s5 := SZ5.out; have s6 := SZ6.out; have s7 := SZ7.out; have s8 := SZ8.out; have s9 := SZ9.out; have s10 := SZ10.out; have s11 := SZ11.out; have s12 := SZ12.out; omega))
  have OV1_12 : Hid (OI w12 w4.heap.size (.slice VA1 xs1.length xs1.length) xs1) := Lib.hid (OV1_11.out.mv Mv12.out (fun g hg => by have := IV1.out g hg; have s0 := SZ0.out; have s1 := SZ1.out; have s2 := SZ2.out; have s3 := SZ3.out; have s4 := SZ4.out; have s5 := SZ5.out; have s6 := SZ6.out; have s7 := SZ7.out; have s8 := SZ8.out; have s9 := SZ9.out; have s10 := SZ10.out; have s11 := SZ11.out; have s12 := SZ12.out; omega))
  have OY_12 : Hid (OI w12 w5.heap.size (.slice YA D.length Yc) D) := Lib.hid (OY_11.out.mv Mv12.out (fun g hg => by have := IY.out g hg; have s0 := SZ0.out; have s1 := SZ1.out; have s2 := SZ2.out; have s3 := SZ3.out; have s4 := SZ4.out; have s5 := SZ5.out; have s6 := SZ6.out; have s7 := SZ7.out; have s8 := SZ8.out; have s9 := SZ9.out; have s10 := SZ10.out; have s11 := SZ11.out; have s12 := SZ12.out; omega))
  have HB12 : Hid (Below w.heap.size w w12) := Lib.hid (Mv12.out.below HB11.out (by have s0 := SZ0.out; have s1 := SZ1.out; have s2 := SZ2.out; have s3 := SZ3.out; have s4 := SZ4.out; have s5 := SZ5.out; have s6 := SZ6.out; have s7 := SZ7.out; have s8 := SZ8.out; have s9 := SZ9.out; have s10 := SZ10.out; have s11 := SZ11.out; have s12 := SZ12.out; omega) HB11.out.size)
  clear gg
  go_wp2_with fail
  refine (markI_any OV1_12.out (1 + xs0.length) (by have h2 := Sd0.out; have h3 := Sd1.out; omega)).mono ?_
  rintro e w13 ⟨rfl, _, gg⟩
  have Mv13 : Hid (Mv w4.heap.size w5.heap.size w12 w13) := Lib.hid (Mv.grown gg IV1.out)
  have SZ13 : Hid (w12.heap.size ≤ w13.heap.size) := Lib.hid Mv13.out.2.2.2.1
  have OZ_13 : Hid (OI w13 w2.heap.size (.slice ZA D.length Zc) D) := Lib.hid (OZ_12.out.mv Mv13.out (fun g hg => by have := IZ.out g hg; have s0 := SZ0.out; have s1 := SZ1.out; have s2 := SZ2.out; have s3 := SZ3.out; have s4 := SZ4.out; have s5 := SZ5.out; have s6 := SZ6.out; have s7 := SZ7.out; have s8 := SZ8.out; have s9 := SZ9.out; have s10 := SZ10.out; have s11 := SZ11.out; have s12 := SZ12.out; have s13 := SZ13.out; omega))
  have OY_13 : Hid (OI w13 w5.heap.size (.slice YA D.length Yc) D) := Lib.hid (OY_12.out.mv Mv13.out (fun g hg => by have := IY.out g hg; have s0 := SZ0.out; have s1 := SZ1.out; have s2 := SZ2.out; have s3 := SZ3.out; have s4 := SZ4.out; have s5 := SZ5.out; have s6 := SZ6.out; have s7 := SZ7.out; have s8 := SZ8.out; have s9 := SZ9.out; have s10 := SZ10.out; have s11 := SZ11.out; have s12 := SZ12.out; have s13 := SZ13.out; omega))
  have HB13 : Hid (Below w.heap.size w w13) := Lib.hid (Mv13.out.below HB12.out (by have s0 := SZ0.out; have s1 := SZ1.out; have s2 := SZ2.out; have s3 := SZ3.out; have s4 := SZ4.out; have s5 := SZ5.out; have s6 := SZ6.out; have s7 := SZ7.out; have s8 := SZ8.out; have s9 := SZ9.out; have s10 := SZ10.out; have s11 := SZ11.out; have s12 := SZ12.out; have s13 := SZ13.out; omega) HB12.out.size)
  clear gg
  have neg1 : ¬ (((1 + xs0.length + xs1.length : Nat) : Int) < 0) := by omega
  go_wp2_with fail
  refine (eqI_any (OY_13.out.ri ID.out) (OZ_13.out.ri ID.out) (Nat.le_refl _)).mono ?_
  rintro e w14 ⟨rfl, g⟩
  have G14 := Lib.hid g; have SZ14 : Hid (w13.heap.size ≤ w14.heap.size) := Lib.hid g.size; clear g
  have OZ_14 : Hid (OI w14 w2.heap.size (.slice ZA D.length Zc) D) := Lib.hid (OZ_13.out.bel G14.out)
  have OY_14 : Hid (OI w14 w5.heap.size (.slice YA D.length Yc) D) := Lib.hid (OY_13.out.bel G14.out)
  have HB14 : Hid (Below w.heap.size w w14) := Lib.hid (HB13.out.trans (G14.out.mono HB13.out.size))
  go_wp2_with fail
  refine (markI_any OY_14.out 1 (by have h1 := LD.out; omega)).mono ?_
  rintro e w15 ⟨rfl, oa, gg⟩
  have Mv15 : Hid (Mv w5.heap.size w6.heap.size w14 w15) := Lib.hid (Mv.grown gg IY.out)
  have SZ15 : Hid (w14.heap.size ≤ w15.heap.size) := Lib.hid Mv15.out.2.2.2.1
  have OZ_15 : Hid (OI w15 w2.heap.size (.slice ZA D.length Zc) D) := Lib.hid (OZ_14.out.mv Mv15.out (fun g hg => by have := IZ.out g hg; have s0 := SZ0.out; have s1 := SZ1.out; have s2 := SZ2.out; have s3 := SZ3.out; have s4 := SZ4.out; have s5 := SZ5.out; have s6 := SZ6.out; have s7 := SZ7.out; have s8 := SZ8.out; have s9 := SZ9.out; have s10 := SZ10.out; have s11 := SZ11.out; have s12 := SZ12.out; have s13 := SZ13.out; have s14 := SZ14.out; have s15 := SZ15.out; omega))
  have HB15 : Hid (Below w.heap.size w w15) := Lib.hid (Mv15.out.below HB14.out (by have s0 := SZ0.out; have s1 := SZ1.out; have s2 := SZ2.out; have s3 := SZ3.out; have s4 := SZ4.out; have s5 := SZ5.out; have s6 := SZ6.out; have s7 := SZ7.out; have s8 := SZ8.out; have s9 := SZ9.out; have s10 := SZ10.out; have s11 := SZ11.out; have s12 := SZ12.out; have s13 := SZ13.out; have s14 := SZ14.out; have s15 := SZ15.out; omega) HB14.out.size)
  have OY_15 : Hid (OI w15 w5.heap.size (.slice YA D.length Yc) (marks 1 D.length)) := Lib.hid oa; clear oa gg
  have neg2 : ¬ (((1 + D.length : Nat) : Int) < 0) := by omega
  go_wp2_with fail
  refine (heldI_any 1 OY_15.out (by have h1 := LD.out; omega)).mono ?_
  rintro e wq ⟨rfl, rfl⟩
  go_wp2_with fail
  refine (toI_oi (H0.out.at (Nat.le_refl _) HB15.out) (Nat.le_refl _) Sd0.out).mono ?_
  rintro e w16 ⟨EA0, rfl, oa, g⟩
  have G16 := Lib.hid g; have SZ16 : Hid (w15.heap.size ≤ w16.heap.size) := Lib.hid g.size; clear g
  have OZ_16 : Hid (OI w16 w2.heap.size (.slice ZA D.length Zc) D) := Lib.hid (OZ_15.out.bel G16.out)
  have OY_16 : Hid (OI w16 w5.heap.size (.slice YA D.length Yc) (marks 1 D.length)) := Lib.hid (OY_15.out.bel G16.out)
  have HB16 : Hid (Below w.heap.size w w16) := Lib.hid (HB15.out.trans (G16.out.mono HB15.out.size))
  have OE0_16 : Hid (OI w16 w15.heap.size (.slice EA0 xs0.length xs0.length) xs0) := Lib.hid oa; clear oa
  have IE0 := Lib.hid OE0_16.out.wi
  go_wp2_with fail
  refine (toI_oi (H1.out.at (Nat.le_refl _) HB16.out) (Nat.le_refl _) Sd1.out).mono ?_
  rintro e w17 ⟨EA1, rfl, oa, g⟩
  have G17 := Lib.hid g; have SZ17 : Hid (w16.heap.size ≤ w17.heap.size) := Lib.hid g.size; clear g
  have OZ_17 : Hid (OI w17 w2.heap.size (.slice ZA D.length Zc) D) := Lib.hid (OZ_16.out.bel G17.out)
  have OY_17 : Hid (OI w17 w5.heap.size (.slice YA D.length Yc) (marks 1 D.length)) := Lib.hid (OY_16.out.bel G17.out)
  have OE0_17 : Hid (OI w17 w15.heap.size (.slice EA0 xs0.length xs0.length) xs0) := Lib.hid (OE0_16.out.bel G17.out)
  have HB17 : Hid (Below w.heap.size w w17) := Lib.hid (HB16.out.trans (G17.out.mono HB16.out.size))
  have OE1_17 : Hid (OI w17 w16.heap.size (.slice EA1 xs1.length xs1.length) xs1) := Lib.hid oa; clear oa
  have IE1 := Lib.hid OE1_17.out.wi
  go_wp2_with fail
  refine (pAns HD.out (OE0_17.out.ri H0.out.inI) (OE1_17.out.ri H1.out.inI)  (Nat.le_refl _)).mono ?_
  rintro e w18 ⟨Cv, rfl, oa, g⟩
  have G18 := Lib.hid g; have SZ18 : Hid (w17.heap.size ≤ w18.heap.size) := Lib.hid g.size; clear g
  have OZ_18 : Hid (OI w18 w2.heap.size (.slice ZA D.length Zc) D) := Lib.hid (OZ_17.out.bel G18.out)
  have OY_18 : Hid (OI w18 w5.heap.size (.slice YA D.length Yc) (marks 1 D.length)) := Lib.hid (OY_17.out.bel G18.out)
  have OE0_18 : Hid (OI w18 w15.heap.size (.slice EA0 xs0.length xs0.length) xs0) := Lib.hid (OE0_17.out.bel G18.out)
  have OE1_18 : Hid (OI w18 w16.heap.size (.slice EA1 xs1.length xs1.length) xs1) := Lib.hid (OE1_17.out.bel G18.out)
  have HB18 : Hid (Below w.heap.size w w18) := Lib.hid (HB17.out.trans (G18.out.mono HB17.out.size))
  obtain ⟨CA, Cc, rfl⟩ := oi_opened oa
  have OC_18 : Hid (OI w18 w17.heap.size (.slice CA D.length Cc) D) := Lib.hid oa; clear oa
  have IC := Lib.hid OC_18.out.wi
  go_wp2_with fail
  refine (eqI_any (OC_18.out.ri ID.out) (OZ_18.out.ri ID.out) (Nat.le_refl _)).mono ?_
  rintro e w19 ⟨rfl, g⟩
  have G19 := Lib.hid g; have SZ19 : Hid (w18.heap.size ≤ w19.heap.size) := Lib.hid g.size; clear g
  have OZ_19 : Hid (OI w19 w2.heap.size (.slice ZA D.length Zc) D) := Lib.hid (OZ_18.out.bel G19.out)
  have OY_19 : Hid (OI w19 w5.heap.size (.slice YA D.length Yc) (marks 1 D.length)) := Lib.hid (OY_18.out.bel G19.out)
  have OC_19 : Hid (OI w19 w17.heap.size (.slice CA D.length Cc) D) := Lib.hid (OC_18.out.bel G19.out)
  have HB19 : Hid (Below w.heap.size w w19) := Lib.hid (HB18.out.trans (G19.out.mono HB18.out.size))
  go_wp2_with fail
  refine (heldI_any 1 OY_19.out (by have h1 := LD.out; omega)).mono ?_
  rintro e wq ⟨rfl, rfl⟩
  go_wp2_with fail
  go_ret
  exact ⟨rfl, HB19.out⟩
theorem own : ownKnob Try.prog.godebug = none := by kernel_rfl
theorem laidOut : laidOutB Try.prog = true := by kernel_rfl
set_option maxRecDepth 100000 in
theorem lifted (os : Os) (started : os.Started) (H : Type) (enc : TypeId × Value → H) :
    ReturnsInHanded {} Try.checked os 6 .any (Rows.fnExactChunkKeysSpec.pre6 enc Try.prog Try.f6 Rows.fnExactChunkKeysRow.domain false) (Rows.fnExactChunkKeysSpec.post enc Try.prog Try.f6 false true false false) := by
  refine returnsInHanded_of_change (C := Try.checked) own started (by kernel_rfl) Try.func6
    (ChangeSpec.witness6 (enc := enc) (C := Try.checked) false ⟨#[], #[.slice none 0 0, .slice none 0 0], []⟩ 8 (by kernel_rfl) (by kernel_rfl) (by kernel_rfl) (by kernel_rfl)) ?_
  intro W base args ds gs before hval0 hW hcnd _
  have hval : ∀ (j : Nat) t v, Try.f6.params[j]? = some t → args[j]? = some v → Value.okWide Try.prog W .any base t v := hval0
  have hW' := hW
  obtain ⟨p, q, hA0, hV, rfl, hfz, hnd⟩ := hW
  have hA : DataW.TrodAll enc Try.prog W 0 (fun _ => true) true Try.f6.params.toList args.toList ds p := hA0
  rw [Try.params6] at hA hval
  obtain ⟨v0, vs0, d0, ds0, p0, q0, hargs, rfl, rfl, h0, r0⟩ := trodAll_cons hA
  obtain ⟨v1, vs1, d1, ds1, p1, q1, rfl, rfl, rfl, h1, r1⟩ := trodAll_cons r0
  obtain ⟨rfl, rfl, rfl⟩ := trodAll_nil r1
  obtain rfl : args = #[v0, v1] := by cases args; simp_all
  obtain ⟨rfl, rfl⟩ := trodVars_none hV
  have k0 := h0
  have lt0 : ∀ x ∈ p0, x.block < W.heap.size := by obtain ⟨m, hm⟩ := k0; exact DataW.trod_lt m _ _ _ hm
  obtain ⟨xs0, g0⟩ := open_i (hval 0 22 v0 rfl rfl) h0
  have k1 := h1
  have lt1 : ∀ x ∈ p1, x.block < W.heap.size := by obtain ⟨m, hm⟩ := k1; exact DataW.trod_lt m _ _ _ hm
  obtain ⟨xs1, g1⟩ := open_i (hval 1 22 v1 rfl rfl) h1
  clear hA0 hval0
  refine (walk W _ _ _ _ g0 g1).mono fun e W' ⟨he, bel⟩ => ?_
  subst he
  exact ⟨_, rfl, _, _, _, [], _, [], hW', (trodAll_cons_mk (shut_bool Try.underlying4 _) trodAll_mk0), (trodAll_cons_mk (Below.trod laidOut (by kernel_rfl) (of_decide_eq_true (by kernel_rfl)) k0 bel lt0) (trodAll_cons_mk (Below.trod laidOut (by kernel_rfl) (of_decide_eq_true (by kernel_rfl)) k1 bel lt1) trodAll_mk0)), rfl, bel.frame _, fun h => by cases h⟩
theorem closed : joinedFacts Try.pinned.checked.prog 6 Try.f6 Rows.fnExactChunkKeysSpec Rows.fnExactChunkKeysRow = true := by
  unfold joinedFacts
  rw [mayE, lifF, mkP]
  kernel_rfl
theorem over : Rows.fnExactChunkKeysRow.holds Try.pinned (OpenSpec.ofChange Rows.fnExactChunkKeysSpec) :=
  OpenClaim.holds_of_wide 6 Try.f6 rfl rfl rfl rfl rfl rfl rfl ⟨rfl, rfl, rfl, rfl, rfl⟩ rfl rfl rfl rfl rfl (by kernel_rfl) Try.func6 closed
    (of_decide_eq_true (by kernel_rfl)) (by unfold Func.isWrapper; rw [if_neg (of_decide_eq_false (by kernel_rfl))]; exact ⟨rfl, rfl⟩)
    (fun os started H enc _ => lifted os started H enc)
theorem proved : Rows.FnExactChunkKeysSaid := over
end Go.Proofs.Ytmghbgnalkkppaa.fnExactChunkKeys
