/- The statement of the law FnExactMergePages: whatever the input, the program's function answers as the model's, and the input reads as it did. Its conditions are the given statement's own; nothing is added. -/
import Derived.Test.YtkoenlkoalbhlaaJf
import Derived.Test.YtkoenlkoalbhlaaMgB
import Derived.Test.YtkoenlkoalbhlaaMrG
import Derived.Test.YtkoenlkoalbhlaaFrmP
import Derived.ProofKit
import Derived.OpenShut
import Derived.ShutString
import Derived.ChangeOld
import Derived.Below
import Derived.Deep.DeepFit
import Derived.Deep.WholeRow
import Derived.Deep.RegionHeld3
namespace Go.Proofs.Ytkoenlkoalbhlaa.fnExactMergePages
open Go.ChangeShapes Go.WideShapes Go.ChangeAt Go.RowKit
open Go.ChangeMaps (open_string shut_string)
set_option linter.unusedVariables false
theorem oldM {w1 u : World} {p : Addr} {v : Value} (g : Below w1.heap.size w1 u) (h : w1.cell? p = some v) : u.cell? p = some v := (g.cell (World.block_lt_of_cell? w1 p h)).trans h
set_option maxHeartbeats 8000000 in
set_option maxRecDepth 100000 in
theorem walk (w : World) (v0_0 : Value) (xs0_0 : List Pt) (v1_0 : Value) (xs1_0 : List Pt) (h0_0 : RiU w.heap.size w v0_0 xs0_0) (h1_0 : RiU w.heap.size w v1_0 xs1_0) :
    Calls Try.prog 8 #[v0_0, v1_0] w (GivesB (.bool true) w) := by
  have H0_0 := Lib.hid h0_0; obtain ⟨A0_0, c0_0, rfl, bl0, bm0, -⟩ := h0_0; unfold maxLen at bm0
  have H1_0 := Lib.hid h1_0; obtain ⟨A1_0, c1_0, rfl, bl1, bm1, -⟩ := h1_0; unfold maxLen at bm1
  have S0 := Lib.hid (fun (W : World) (X0_0 : Option Addr) (X1_0 : Option Addr) (g0_0 : RiU W.heap.size W (.slice X0_0 xs0_0.length xs0_0.length) xs0_0) (g1_0 : RiU W.heap.size W (.slice X1_0 xs1_0.length xs1_0.length) xs1_0) => specMergePages_any g0_0 g1_0 (Nat.le_refl _) )
  have P0 := Lib.hid (fun (W : World) (X0_0 : Nat) (X1_0 : Nat) (g0_0 : RiU W.heap.size W (.slice (some ⟨X0_0, 0, none⟩) xs0_0.length xs0_0.length) xs0_0) (g1_0 : RiU W.heap.size W (.slice (some ⟨X1_0, 0, none⟩) xs1_0.length xs1_0.length) xs1_0) => implMergePages_any g0_0 g1_0)
  have HB0 : Hid (Below w.heap.size w w) := Lib.hid (Below.refl _ _)
  have SZ0 : Hid (w.heap.size ≤ w.heap.size) := Lib.hid (Nat.le_refl _)
  go_enter Try.func8, Try.ntmps8
  go_wp2_with fail
  refine (szPages_any (H0_0.out.at (Nat.le_refl _) HB0.out) (Nat.le_refl _) (1048576) (by omega) (by omega)).mono ?_
  rintro e w1 ⟨l0, rfl, hl0, hL0, hp0, g⟩
  have Pz0 := Lib.hid hp0; have G1 := Lib.hid g; have SZ1 : Hid (w.heap.size ≤ w1.heap.size) := Lib.hid g.size; clear hp0 g
  have HB1 : Hid (Below w.heap.size w w1) := Lib.hid (HB0.out.trans (G1.out.mono HB0.out.size))
  by_cases neg0 : l0 < 0
  · skip
    go_wp2_with fail
    go_ret
    exact ⟨rfl, HB1.out⟩
  have SM0 := Lib.hid (Pz0.out (by omega))
  go_wp2_with fail
  refine (szPages_any (H1_0.out.at (Nat.le_refl _) HB1.out) (Nat.le_refl _) (l0) (by omega) (by omega)).mono ?_
  rintro e w2 ⟨l1, rfl, hl1, hL1, hp1, g⟩
  have Pz1 := Lib.hid hp1; have G2 := Lib.hid g; have SZ2 : Hid (w1.heap.size ≤ w2.heap.size) := Lib.hid g.size; clear hp1 g
  have HB2 : Hid (Below w.heap.size w w2) := Lib.hid (HB1.out.trans (G2.out.mono HB1.out.size))
  by_cases neg1 : l1 < 0
  · skip
    go_wp2_with fail
    go_ret
    exact ⟨rfl, HB2.out⟩
  have SM1 := Lib.hid (Pz1.out (by omega))
  obtain ⟨D, hD⟩ : ∃ D, D = mgD xs0_0 xs1_0 := ⟨_, rfl⟩
  have OKD : Hid ((∀ p ∈ D, InI p.1 ∧ p.2.size ≤ maxLen) ∧ D.length ≤ 2097152) := Lib.hid (by rw [hD]; exact mgD_ok H0_0.out.wf H1_0.out.wf SM0.out SM1.out)
  rw [← hD] at S0 P0
  clear hD
  go_wp2_with fail
  refine (toPages_any (H0_0.out.at (Nat.le_refl _) HB2.out) (Nat.le_refl _) SM0.out.1).mono ?_
  rintro e w3 ⟨rfl, rr, g⟩
  have G3 := Lib.hid g; have SZ3 : Hid (w2.heap.size ≤ w3.heap.size) := Lib.hid g.size; clear g
  have HB3 : Hid (Below w.heap.size w w3) := Lib.hid (HB2.out.trans (G3.out.mono HB2.out.size))
  have OT0_0_3 : Hid (OG w3 w2.heap.size (.slice (some ⟨w2.heap.size, 0, none⟩) xs0_0.length xs0_0.length) xs0_0) := Lib.hid (OG.of_row rr (Nat.le_refl _) (by unfold maxLen; omega)); clear rr
  have IT0_0 := Lib.hid (own_wi OT0_0_3.out)
  go_wp2_with fail
  refine (toPages_any (H1_0.out.at (Nat.le_refl _) HB3.out) (Nat.le_refl _) SM1.out.1).mono ?_
  rintro e w4 ⟨rfl, rr, g⟩
  have G4 := Lib.hid g; have SZ4 : Hid (w3.heap.size ≤ w4.heap.size) := Lib.hid g.size; clear g
  have OT0_0_4 : Hid (OG w4 w2.heap.size (.slice (some ⟨w2.heap.size, 0, none⟩) xs0_0.length xs0_0.length) xs0_0) := Lib.hid (own_bel OT0_0_3.out G4.out)
  have HB4 : Hid (Below w.heap.size w w4) := Lib.hid (HB3.out.trans (G4.out.mono HB3.out.size))
  have OT1_0_4 : Hid (OG w4 w3.heap.size (.slice (some ⟨w3.heap.size, 0, none⟩) xs1_0.length xs1_0.length) xs1_0) := Lib.hid (OG.of_row rr (Nat.le_refl _) (by unfold maxLen; omega)); clear rr
  have IT1_0 := Lib.hid (own_wi OT1_0_4.out)
  go_wp2_with fail
  refine (S0.out w4 _ _ (OT0_0_4.out.riu H0_0.out.wf) (OT1_0_4.out.riu H1_0.out.wf)).mono ?_
  rintro e w5 ⟨Zv, rfl, oa, g⟩
  have G5 := Lib.hid g; have SZ5 : Hid (w4.heap.size ≤ w5.heap.size) := Lib.hid g.size; clear g
  have OT0_0_5 : Hid (OG w5 w2.heap.size (.slice (some ⟨w2.heap.size, 0, none⟩) xs0_0.length xs0_0.length) xs0_0) := Lib.hid (own_bel OT0_0_4.out G5.out)
  have OT1_0_5 : Hid (OG w5 w3.heap.size (.slice (some ⟨w3.heap.size, 0, none⟩) xs1_0.length xs1_0.length) xs1_0) := Lib.hid (own_bel OT1_0_4.out G5.out)
  have HB5 : Hid (Below w.heap.size w w5) := Lib.hid (HB4.out.trans (G5.out.mono HB4.out.size))
  obtain ⟨ZA, Zc, rfl⟩ := OG.opened oa
  have OZ_5 : Hid (OG w5 w4.heap.size (.slice ZA D.length Zc) D) := Lib.hid oa; clear oa
  have IZ := Lib.hid (own_wi OZ_5.out)
  go_wp2_with fail
  refine (toPages_any (H0_0.out.at (Nat.le_refl _) HB5.out) (Nat.le_refl _) SM0.out.1).mono ?_
  rintro e w6 ⟨rfl, rr, g⟩
  have G6 := Lib.hid g; have SZ6 : Hid (w5.heap.size ≤ w6.heap.size) := Lib.hid g.size; clear g
  have OZ_6 : Hid (OG w6 w4.heap.size (.slice ZA D.length Zc) D) := Lib.hid (own_bel OZ_5.out G6.out)
  have HB6 : Hid (Below w.heap.size w w6) := Lib.hid (HB5.out.trans (G6.out.mono HB5.out.size))
  have OV0_0_6 : Hid (OG w6 w5.heap.size (.slice (some ⟨w5.heap.size, 0, none⟩) xs0_0.length xs0_0.length) xs0_0) := Lib.hid (OG.of_row rr (Nat.le_refl _) (by unfold maxLen; omega)); clear rr
  have IV0_0 := Lib.hid (own_wi OV0_0_6.out)
  go_wp2_with fail
  refine (toPages_any (H1_0.out.at (Nat.le_refl _) HB6.out) (Nat.le_refl _) SM1.out.1).mono ?_
  rintro e w7 ⟨rfl, rr, g⟩
  have G7 := Lib.hid g; have SZ7 : Hid (w6.heap.size ≤ w7.heap.size) := Lib.hid g.size; clear g
  have OZ_7 : Hid (OG w7 w4.heap.size (.slice ZA D.length Zc) D) := Lib.hid (own_bel OZ_6.out G7.out)
  have OV0_0_7 : Hid (OG w7 w5.heap.size (.slice (some ⟨w5.heap.size, 0, none⟩) xs0_0.length xs0_0.length) xs0_0) := Lib.hid (own_bel OV0_0_6.out G7.out)
  have HB7 : Hid (Below w.heap.size w w7) := Lib.hid (HB6.out.trans (G7.out.mono HB6.out.size))
  have OV1_0_7 : Hid (OG w7 w6.heap.size (.slice (some ⟨w6.heap.size, 0, none⟩) xs1_0.length xs1_0.length) xs1_0) := Lib.hid (OG.of_row rr (Nat.le_refl _) (by unfold maxLen; omega)); clear rr
  have IV1_0 := Lib.hid (own_wi OV1_0_7.out)
  go_wp2_with fail
  refine (P0.out w7 _ _ (OV0_0_7.out.riu H0_0.out.wf) (OV1_0_7.out.riu H1_0.out.wf)).mono ?_
  rintro e w8 ⟨Yv, rfl, oa, g⟩
  have G8 := Lib.hid g; have SZ8 : Hid (w7.heap.size ≤ w8.heap.size) := Lib.hid g.size; clear g
  have OZ_8 : Hid (OG w8 w4.heap.size (.slice ZA D.length Zc) D) := Lib.hid (own_bel OZ_7.out G8.out)
  have OV0_0_8 : Hid (OG w8 w5.heap.size (.slice (some ⟨w5.heap.size, 0, none⟩) xs0_0.length xs0_0.length) xs0_0) := Lib.hid (own_bel OV0_0_7.out G8.out)
  have OV1_0_8 : Hid (OG w8 w6.heap.size (.slice (some ⟨w6.heap.size, 0, none⟩) xs1_0.length xs1_0.length) xs1_0) := Lib.hid (own_bel OV1_0_7.out G8.out)
  have HB8 : Hid (Below w.heap.size w w8) := Lib.hid (HB7.out.trans (G8.out.mono HB7.out.size))
  obtain ⟨YA, Yc, rfl⟩ := OG.opened oa
  have OY_8 : Hid (OG w8 w7.heap.size (.slice YA D.length Yc) D) := Lib.hid oa; clear oa
  have IY := Lib.hid (own_wi OY_8.out)
  go_wp2_with fail
  refine (eqPages_any (OY_8.out.riu OKD.out.1) (OZ_8.out.riu OKD.out.1) (Nat.le_refl _)).mono ?_
  rintro e w9 ⟨rfl, g⟩
  have G9 := Lib.hid g; have SZ9 : Hid (w8.heap.size ≤ w9.heap.size) := Lib.hid g.size; clear g
  have OZ_9 : Hid (OG w9 w4.heap.size (.slice ZA D.length Zc) D) := Lib.hid (own_bel OZ_8.out G9.out)
  have OV0_0_9 : Hid (OG w9 w5.heap.size (.slice (some ⟨w5.heap.size, 0, none⟩) xs0_0.length xs0_0.length) xs0_0) := Lib.hid (own_bel OV0_0_8.out G9.out)
  have OV1_0_9 : Hid (OG w9 w6.heap.size (.slice (some ⟨w6.heap.size, 0, none⟩) xs1_0.length xs1_0.length) xs1_0) := Lib.hid (own_bel OV1_0_8.out G9.out)
  have OY_9 : Hid (OG w9 w7.heap.size (.slice YA D.length Yc) D) := Lib.hid (own_bel OY_8.out G9.out)
  have HB9 : Hid (Below w.heap.size w w9) := Lib.hid (HB8.out.trans (G9.out.mono HB8.out.size))
  go_wp2_with fail
  refine (toPages_any (H0_0.out.at (Nat.le_refl _) HB9.out) (Nat.le_refl _) SM0.out.1).mono ?_
  rintro e w10 ⟨rfl, rr, g⟩
  have G10 := Lib.hid g; have SZ10 : Hid (w9.heap.size ≤ w10.heap.size) := Lib.hid g.size; clear g
  have OZ_10 : Hid (OG w10 w4.heap.size (.slice ZA D.length Zc) D) := Lib.hid (own_bel OZ_9.out G10.out)
  have OV0_0_10 : Hid (OG w10 w5.heap.size (.slice (some ⟨w5.heap.size, 0, none⟩) xs0_0.length xs0_0.length) xs0_0) := Lib.hid (own_bel OV0_0_9.out G10.out)
  have OV1_0_10 : Hid (OG w10 w6.heap.size (.slice (some ⟨w6.heap.size, 0, none⟩) xs1_0.length xs1_0.length) xs1_0) := Lib.hid (own_bel OV1_0_9.out G10.out)
  have OY_10 : Hid (OG w10 w7.heap.size (.slice YA D.length Yc) D) := Lib.hid (own_bel OY_9.out G10.out)
  have HB10 : Hid (Below w.heap.size w w10) := Lib.hid (HB9.out.trans (G10.out.mono HB9.out.size))
  have ON0_0_10 : Hid (OG w10 w9.heap.size (.slice (some ⟨w9.heap.size, 0, none⟩) xs0_0.length xs0_0.length) xs0_0) := Lib.hid (OG.of_row rr (Nat.le_refl _) (by unfold maxLen; omega)); clear rr
  have IN0_0 := Lib.hid (own_wi ON0_0_10.out)
  go_wp2_with fail
  refine (eqPages_any (OV0_0_10.out.riu H0_0.out.wf) (ON0_0_10.out.riu H0_0.out.wf) (Nat.le_refl _)).mono ?_
  rintro e w11 ⟨rfl, g⟩
  have G11 := Lib.hid g; have SZ11 : Hid (w10.heap.size ≤ w11.heap.size) := Lib.hid g.size; clear g
  have OZ_11 : Hid (OG w11 w4.heap.size (.slice ZA D.length Zc) D) := Lib.hid (own_bel OZ_10.out G11.out)
  have OV0_0_11 : Hid (OG w11 w5.heap.size (.slice (some ⟨w5.heap.size, 0, none⟩) xs0_0.length xs0_0.length) xs0_0) := Lib.hid (own_bel OV0_0_10.out G11.out)
  have OV1_0_11 : Hid (OG w11 w6.heap.size (.slice (some ⟨w6.heap.size, 0, none⟩) xs1_0.length xs1_0.length) xs1_0) := Lib.hid (own_bel OV1_0_10.out G11.out)
  have OY_11 : Hid (OG w11 w7.heap.size (.slice YA D.length Yc) D) := Lib.hid (own_bel OY_10.out G11.out)
  have ON0_0_11 : Hid (OG w11 w9.heap.size (.slice (some ⟨w9.heap.size, 0, none⟩) xs0_0.length xs0_0.length) xs0_0) := Lib.hid (own_bel ON0_0_10.out G11.out)
  have HB11 : Hid (Below w.heap.size w w11) := Lib.hid (HB10.out.trans (G11.out.mono HB10.out.size))
  go_wp2_with fail
  refine (toPages_any (H1_0.out.at (Nat.le_refl _) HB11.out) (Nat.le_refl _) SM1.out.1).mono ?_
  rintro e w12 ⟨rfl, rr, g⟩
  have G12 := Lib.hid g; have SZ12 : Hid (w11.heap.size ≤ w12.heap.size) := Lib.hid g.size; clear g
  have OZ_12 : Hid (OG w12 w4.heap.size (.slice ZA D.length Zc) D) := Lib.hid (own_bel OZ_11.out G12.out)
  have OV0_0_12 : Hid (OG w12 w5.heap.size (.slice (some ⟨w5.heap.size, 0, none⟩) xs0_0.length xs0_0.length) xs0_0) := Lib.hid (own_bel OV0_0_11.out G12.out)
  have OV1_0_12 : Hid (OG w12 w6.heap.size (.slice (some ⟨w6.heap.size, 0, none⟩) xs1_0.length xs1_0.length) xs1_0) := Lib.hid (own_bel OV1_0_11.out G12.out)
  have OY_12 : Hid (OG w12 w7.heap.size (.slice YA D.length Yc) D) := Lib.hid (own_bel OY_11.out G12.out)
  have HB12 : Hid (Below w.heap.size w w12) := Lib.hid (HB11.out.trans (G12.out.mono HB11.out.size))
  have ON1_0_12 : Hid (OG w12 w11.heap.size (.slice (some ⟨w11.heap.size, 0, none⟩) xs1_0.length xs1_0.length) xs1_0) := Lib.hid (OG.of_row rr (Nat.le_refl _) (by unfold maxLen; omega)); clear rr
  have IN1_0 := Lib.hid (own_wi ON1_0_12.out)
  go_wp2_with fail
  refine (eqPages_any (OV1_0_12.out.riu H1_0.out.wf) (ON1_0_12.out.riu H1_0.out.wf) (Nat.le_refl _)).mono ?_
  rintro e w13 ⟨rfl, g⟩
  have G13 := Lib.hid g; have SZ13 : Hid (w12.heap.size ≤ w13.heap.size) := Lib.hid g.size; clear g
  have OZ_13 : Hid (OG w13 w4.heap.size (.slice ZA D.length Zc) D) := Lib.hid (own_bel OZ_12.out G13.out)
  have OV0_0_13 : Hid (OG w13 w5.heap.size (.slice (some ⟨w5.heap.size, 0, none⟩) xs0_0.length xs0_0.length) xs0_0) := Lib.hid (own_bel OV0_0_12.out G13.out)
  have OV1_0_13 : Hid (OG w13 w6.heap.size (.slice (some ⟨w6.heap.size, 0, none⟩) xs1_0.length xs1_0.length) xs1_0) := Lib.hid (own_bel OV1_0_12.out G13.out)
  have OY_13 : Hid (OG w13 w7.heap.size (.slice YA D.length Yc) D) := Lib.hid (own_bel OY_12.out G13.out)
  have ON1_0_13 : Hid (OG w13 w11.heap.size (.slice (some ⟨w11.heap.size, 0, none⟩) xs1_0.length xs1_0.length) xs1_0) := Lib.hid (own_bel ON1_0_12.out G13.out)
  have HB13 : Hid (Below w.heap.size w w13) := Lib.hid (HB12.out.trans (G13.out.mono HB12.out.size))
  go_wp2_with fail
  refine (markG_any OV0_0_13.out (1) (by omega) (by have h1 := SM0.out.1; have h5 := SM0.out.1; have h6 := SM1.out.1; omega)).mono ?_
  rintro e w14 ⟨rfl, oa, gr⟩
  have Mv14 : Hid (Mv w5.heap.size w6.heap.size w13 w14) := Lib.hid (Mv.grown gr IV0_0.out)
  have SZ14 : Hid (w13.heap.size ≤ w14.heap.size) := Lib.hid Mv14.out.2.2.2.1
  have OZ_14 : Hid (OG w14 w4.heap.size (.slice ZA D.length Zc) D) := Lib.hid (own_mv OZ_13.out Mv14.out (fun g hg => by have := IZ.out g hg; have s0 := SZ0.out; have s1 := SZ1.out; have s2 := SZ2.out; have s3 := SZ3.out; have s4 := SZ4.out; have s5 := SZ5.out; have s6 := SZ6.out; have s7 := SZ7.out; have s8 := SZ8.out; have s9 := SZ9.out; have s10 := SZ10.out; have s11 := SZ11.out; have s12 := SZ12.out; have s13 := SZ13.out; have s14 := SZ14.out; omega))
  have OV1_0_14 : Hid (OG w14 w6.heap.size (.slice (some ⟨w6.heap.size, 0, none⟩) xs1_0.length xs1_0.length) xs1_0) := Lib.hid (own_mv OV1_0_13.out Mv14.out (fun g hg => by have := IV1_0.out g hg; have s0 := SZ0.out; have s1 := SZ1.out; have s2 := SZ2.out; have s3 := SZ3.out; have s4 := SZ4.out; have s5 := SZ5.out; have s6 := SZ6.out; have s7 := SZ7.out; have s8 := SZ8.out; have s9 := SZ9.out; have s10 := SZ10.out; have s11 := SZ11.out; have s12 := SZ12.out; have s13 := SZ13.out; have s14 := SZ14.out; omega))
  have OY_14 : Hid (OG w14 w7.heap.size (.slice YA D.length Yc) D) := Lib.hid (own_mv OY_13.out Mv14.out (fun g hg => by have := IY.out g hg; have s0 := SZ0.out; have s1 := SZ1.out; have s2 := SZ2.out; have s3 := SZ3.out; have s4 := SZ4.out; have s5 := SZ5.out; have s6 := SZ6.out; have s7 := SZ7.out; have s8 := SZ8.out; have s9 := SZ9.out; have s10 := SZ10.out; have s11 := SZ11.out; have s12 := SZ12.out; have s13 := SZ13.out; have s14 := SZ14.out; omega))
  have HB14 : Hid (Below w.heap.size w w14) := Lib.hid (Mv14.out.below HB13.out (by have s0 := SZ0.out; have s1 := SZ1.out; have s2 := SZ2.out; have s3 := SZ3.out; have s4 := SZ4.out; have s5 := SZ5.out; have s6 := SZ6.out; have s7 := SZ7.out; have s8 := SZ8.out; have s9 := SZ9.out; have s10 := SZ10.out; have s11 := SZ11.out; have s12 := SZ12.out; have s13 := SZ13.out; have s14 := SZ14.out; omega) HB13.out.size)
  clear oa gr
  go_wp2_with fail
  refine (markG_any OV1_0_14.out (1 + 2 * xs0_0.length) (by omega) (by have h1 := SM1.out.1; have h5 := SM0.out.1; have h6 := SM1.out.1; omega)).mono ?_
  rintro e w15 ⟨rfl, oa, gr⟩
  have Mv15 : Hid (Mv w6.heap.size w7.heap.size w14 w15) := Lib.hid (Mv.grown gr IV1_0.out)
  have SZ15 : Hid (w14.heap.size ≤ w15.heap.size) := Lib.hid Mv15.out.2.2.2.1
  have OZ_15 : Hid (OG w15 w4.heap.size (.slice ZA D.length Zc) D) := Lib.hid (own_mv OZ_14.out Mv15.out (fun g hg => by have := IZ.out g hg; have s0 := SZ0.out; have s1 := SZ1.out; have s2 := SZ2.out; have s3 := SZ3.out; have s4 := SZ4.out; have s5 := SZ5.out; have s6 := SZ6.out; have s7 := SZ7.out; have s8 := SZ8.out; have s9 := SZ9.out; have s10 := SZ10.out; have s11 := SZ11.out; have s12 := SZ12.out; have s13 := SZ13.out; have s14 := SZ14.out; have s15 := SZ15.out; omega))
  have OY_15 : Hid (OG w15 w7.heap.size (.slice YA D.length Yc) D) := Lib.hid (own_mv OY_14.out Mv15.out (fun g hg => by have := IY.out g hg; have s0 := SZ0.out; have s1 := SZ1.out; have s2 := SZ2.out; have s3 := SZ3.out; have s4 := SZ4.out; have s5 := SZ5.out; have s6 := SZ6.out; have s7 := SZ7.out; have s8 := SZ8.out; have s9 := SZ9.out; have s10 := SZ10.out; have s11 := SZ11.out; have s12 := SZ12.out; have s13 := SZ13.out; have s14 := SZ14.out; have s15 := SZ15.out; omega))
  have HB15 : Hid (Below w.heap.size w w15) := Lib.hid (Mv15.out.below HB14.out (by have s0 := SZ0.out; have s1 := SZ1.out; have s2 := SZ2.out; have s3 := SZ3.out; have s4 := SZ4.out; have s5 := SZ5.out; have s6 := SZ6.out; have s7 := SZ7.out; have s8 := SZ8.out; have s9 := SZ9.out; have s10 := SZ10.out; have s11 := SZ11.out; have s12 := SZ12.out; have s13 := SZ13.out; have s14 := SZ14.out; have s15 := SZ15.out; omega) HB14.out.size)
  clear oa gr
  have neg_m1 : ¬ (((1 + 2 * xs0_0.length + 2 * xs1_0.length : Nat) : Int) < 0) := by omega
  go_wp2_with fail
  refine (eqPages_any (OY_15.out.riu OKD.out.1) (OZ_15.out.riu OKD.out.1) (Nat.le_refl _)).mono ?_
  rintro e w16 ⟨rfl, g⟩
  have G16 := Lib.hid g; have SZ16 : Hid (w15.heap.size ≤ w16.heap.size) := Lib.hid g.size; clear g
  have OZ_16 : Hid (OG w16 w4.heap.size (.slice ZA D.length Zc) D) := Lib.hid (own_bel OZ_15.out G16.out)
  have OY_16 : Hid (OG w16 w7.heap.size (.slice YA D.length Yc) D) := Lib.hid (own_bel OY_15.out G16.out)
  have HB16 : Hid (Below w.heap.size w w16) := Lib.hid (HB15.out.trans (G16.out.mono HB15.out.size))
  go_wp2_with fail
  refine (markG_any OY_16.out 1 (by omega) (by have h1 := OKD.out.2; omega)).mono ?_
  rintro e w17 ⟨rfl, oa, gr⟩
  have Mv17 : Hid (Mv w7.heap.size w8.heap.size w16 w17) := Lib.hid (Mv.grown gr IY.out)
  have SZ17 : Hid (w16.heap.size ≤ w17.heap.size) := Lib.hid Mv17.out.2.2.2.1
  have OZ_17 : Hid (OG w17 w4.heap.size (.slice ZA D.length Zc) D) := Lib.hid (own_mv OZ_16.out Mv17.out (fun g hg => by have := IZ.out g hg; have s0 := SZ0.out; have s1 := SZ1.out; have s2 := SZ2.out; have s3 := SZ3.out; have s4 := SZ4.out; have s5 := SZ5.out; have s6 := SZ6.out; have s7 := SZ7.out; have s8 := SZ8.out; have s9 := SZ9.out; have s10 := SZ10.out; have s11 := SZ11.out; have s12 := SZ12.out; have s13 := SZ13.out; have s14 := SZ14.out; have s15 := SZ15.out; have s16 := SZ16.out; have s17 := SZ17.out; omega))
  have HB17 : Hid (Below w.heap.size w w17) := Lib.hid (Mv17.out.below HB16.out (by have s0 := SZ0.out; have s1 := SZ1.out; have s2 := SZ2.out; have s3 := SZ3.out; have s4 := SZ4.out; have s5 := SZ5.out; have s6 := SZ6.out; have s7 := SZ7.out; have s8 := SZ8.out; have s9 := SZ9.out; have s10 := SZ10.out; have s11 := SZ11.out; have s12 := SZ12.out; have s13 := SZ13.out; have s14 := SZ14.out; have s15 := SZ15.out; have s16 := SZ16.out; have s17 := SZ17.out; omega) HB16.out.size)
  have OY_17 : Hid (OG w17 w7.heap.size (.slice YA D.length Yc) (marksU 1 D.length)) := Lib.hid oa; clear oa gr
  have neg_m2 : ¬ (((1 + 2 * D.length : Nat) : Int) < 0) := by omega
  go_wp2_with fail
  refine (heldG_any 1 OY_17.out (by omega) (by have h1 := OKD.out.2; omega)).mono ?_
  rintro e w18 ⟨rfl, g⟩
  have G18 := Lib.hid g; have SZ18 : Hid (w17.heap.size ≤ w18.heap.size) := Lib.hid g.size; clear g
  have OZ_18 : Hid (OG w18 w4.heap.size (.slice ZA D.length Zc) D) := Lib.hid (own_bel OZ_17.out G18.out)
  have OY_18 : Hid (OG w18 w7.heap.size (.slice YA D.length Yc) (marksU 1 D.length)) := Lib.hid (own_bel OY_17.out G18.out)
  have HB18 : Hid (Below w.heap.size w w18) := Lib.hid (HB17.out.trans (G18.out.mono HB17.out.size))
  go_wp2_with fail
  refine (toPages_any (H0_0.out.at (Nat.le_refl _) HB18.out) (Nat.le_refl _) SM0.out.1).mono ?_
  rintro e w19 ⟨rfl, rr, g⟩
  have G19 := Lib.hid g; have SZ19 : Hid (w18.heap.size ≤ w19.heap.size) := Lib.hid g.size; clear g
  have OZ_19 : Hid (OG w19 w4.heap.size (.slice ZA D.length Zc) D) := Lib.hid (own_bel OZ_18.out G19.out)
  have OY_19 : Hid (OG w19 w7.heap.size (.slice YA D.length Yc) (marksU 1 D.length)) := Lib.hid (own_bel OY_18.out G19.out)
  have HB19 : Hid (Below w.heap.size w w19) := Lib.hid (HB18.out.trans (G19.out.mono HB18.out.size))
  have OE0_0_19 : Hid (OG w19 w18.heap.size (.slice (some ⟨w18.heap.size, 0, none⟩) xs0_0.length xs0_0.length) xs0_0) := Lib.hid (OG.of_row rr (Nat.le_refl _) (by unfold maxLen; omega)); clear rr
  have IE0_0 := Lib.hid (own_wi OE0_0_19.out)
  go_wp2_with fail
  refine (toPages_any (H1_0.out.at (Nat.le_refl _) HB19.out) (Nat.le_refl _) SM1.out.1).mono ?_
  rintro e w20 ⟨rfl, rr, g⟩
  have G20 := Lib.hid g; have SZ20 : Hid (w19.heap.size ≤ w20.heap.size) := Lib.hid g.size; clear g
  have OZ_20 : Hid (OG w20 w4.heap.size (.slice ZA D.length Zc) D) := Lib.hid (own_bel OZ_19.out G20.out)
  have OY_20 : Hid (OG w20 w7.heap.size (.slice YA D.length Yc) (marksU 1 D.length)) := Lib.hid (own_bel OY_19.out G20.out)
  have OE0_0_20 : Hid (OG w20 w18.heap.size (.slice (some ⟨w18.heap.size, 0, none⟩) xs0_0.length xs0_0.length) xs0_0) := Lib.hid (own_bel OE0_0_19.out G20.out)
  have HB20 : Hid (Below w.heap.size w w20) := Lib.hid (HB19.out.trans (G20.out.mono HB19.out.size))
  have OE1_0_20 : Hid (OG w20 w19.heap.size (.slice (some ⟨w19.heap.size, 0, none⟩) xs1_0.length xs1_0.length) xs1_0) := Lib.hid (OG.of_row rr (Nat.le_refl _) (by unfold maxLen; omega)); clear rr
  have IE1_0 := Lib.hid (own_wi OE1_0_20.out)
  go_wp2_with fail
  refine (P0.out w20 _ _ (OE0_0_20.out.riu H0_0.out.wf) (OE1_0_20.out.riu H1_0.out.wf)).mono ?_
  rintro e w21 ⟨Cv, rfl, oa, g⟩
  have G21 := Lib.hid g; have SZ21 : Hid (w20.heap.size ≤ w21.heap.size) := Lib.hid g.size; clear g
  have OZ_21 : Hid (OG w21 w4.heap.size (.slice ZA D.length Zc) D) := Lib.hid (own_bel OZ_20.out G21.out)
  have OY_21 : Hid (OG w21 w7.heap.size (.slice YA D.length Yc) (marksU 1 D.length)) := Lib.hid (own_bel OY_20.out G21.out)
  have OE0_0_21 : Hid (OG w21 w18.heap.size (.slice (some ⟨w18.heap.size, 0, none⟩) xs0_0.length xs0_0.length) xs0_0) := Lib.hid (own_bel OE0_0_20.out G21.out)
  have OE1_0_21 : Hid (OG w21 w19.heap.size (.slice (some ⟨w19.heap.size, 0, none⟩) xs1_0.length xs1_0.length) xs1_0) := Lib.hid (own_bel OE1_0_20.out G21.out)
  have HB21 : Hid (Below w.heap.size w w21) := Lib.hid (HB20.out.trans (G21.out.mono HB20.out.size))
  obtain ⟨CA, Cc, rfl⟩ := OG.opened oa
  have OC_21 : Hid (OG w21 w20.heap.size (.slice CA D.length Cc) D) := Lib.hid oa; clear oa
  have IC := Lib.hid (own_wi OC_21.out)
  go_wp2_with fail
  refine (eqPages_any (OC_21.out.riu OKD.out.1) (OZ_21.out.riu OKD.out.1) (Nat.le_refl _)).mono ?_
  rintro e w22 ⟨rfl, g⟩
  have G22 := Lib.hid g; have SZ22 : Hid (w21.heap.size ≤ w22.heap.size) := Lib.hid g.size; clear g
  have OZ_22 : Hid (OG w22 w4.heap.size (.slice ZA D.length Zc) D) := Lib.hid (own_bel OZ_21.out G22.out)
  have OY_22 : Hid (OG w22 w7.heap.size (.slice YA D.length Yc) (marksU 1 D.length)) := Lib.hid (own_bel OY_21.out G22.out)
  have OC_22 : Hid (OG w22 w20.heap.size (.slice CA D.length Cc) D) := Lib.hid (own_bel OC_21.out G22.out)
  have HB22 : Hid (Below w.heap.size w w22) := Lib.hid (HB21.out.trans (G22.out.mono HB21.out.size))
  go_wp2_with fail
  refine (heldG_any 1 OY_22.out (by omega) (by have h1 := OKD.out.2; omega)).mono ?_
  rintro e w23 ⟨rfl, g⟩
  have G23 := Lib.hid g; have SZ23 : Hid (w22.heap.size ≤ w23.heap.size) := Lib.hid g.size; clear g
  have OZ_23 : Hid (OG w23 w4.heap.size (.slice ZA D.length Zc) D) := Lib.hid (own_bel OZ_22.out G23.out)
  have OY_23 : Hid (OG w23 w7.heap.size (.slice YA D.length Yc) (marksU 1 D.length)) := Lib.hid (own_bel OY_22.out G23.out)
  have OC_23 : Hid (OG w23 w20.heap.size (.slice CA D.length Cc) D) := Lib.hid (own_bel OC_22.out G23.out)
  have HB23 : Hid (Below w.heap.size w w23) := Lib.hid (HB22.out.trans (G23.out.mono HB22.out.size))
  go_wp2_with fail
  go_ret
  exact ⟨rfl, HB23.out⟩
theorem own : ownKnob Try.prog.godebug = none := by kernel_rfl
theorem laidOut : laidOutB Try.prog = true := by kernel_rfl
set_option maxRecDepth 100000 in
theorem lifted (os : Os) (started : os.Started) (H : Type) (enc : TypeId × Value → H) :
    ReturnsInHanded {} Try.checked os 8 .any (Rows.fnExactMergePagesSpec.pre6 enc Try.prog Try.f8 Rows.fnExactMergePagesRow.domain false) (Rows.fnExactMergePagesSpec.post enc Try.prog Try.f8 false true false false) := by
  refine returnsInHanded_of_change (C := Try.checked) own started (by kernel_rfl) Try.func8
    (ChangeSpec.witness6 (enc := enc) (C := Try.checked) false ⟨#[], #[.slice none 0 0, .slice none 0 0], []⟩ 8 (by kernel_rfl) (by kernel_rfl) (by kernel_rfl) (by kernel_rfl)) ?_
  intro W base args ds gs before hval0 hW hcnd _
  have hval : ∀ (j : Nat) t v, Try.f8.params[j]? = some t → args[j]? = some v → Value.okWide Try.prog W .any base t v := hval0
  have hW' := hW
  obtain ⟨p, q, hA0, hV, rfl, hfz, hnd⟩ := hW
  have hA : DataW.TrodAll enc Try.prog W 0 (fun _ => true) true Try.f8.params.toList args.toList ds p := hA0
  rw [Try.params8] at hA hval
  obtain ⟨v0, vs0, d0, ds0, p0, q0, hargs, rfl, rfl, h0, r0⟩ := trodAll_cons hA
  obtain ⟨v1, vs1, d1, ds1, p1, q1, rfl, rfl, rfl, h1, r1⟩ := trodAll_cons r0
  obtain ⟨rfl, rfl, rfl⟩ := trodAll_nil r1
  obtain rfl : args = #[v0, v1] := by cases args; simp_all
  obtain ⟨rfl, rfl⟩ := trodVars_none hV
  have k0 := h0
  have lt0 : ∀ x ∈ p0, x.block < W.heap.size := by obtain ⟨m, hm⟩ := k0; exact DataW.trod_lt m _ _ _ hm
  obtain ⟨xs0_0, g0_0⟩ := open_pages (hval 0 49 v0 rfl rfl) h0
  have k1 := h1
  have lt1 : ∀ x ∈ p1, x.block < W.heap.size := by obtain ⟨m, hm⟩ := k1; exact DataW.trod_lt m _ _ _ hm
  obtain ⟨xs1_0, g1_0⟩ := open_pages (hval 1 49 v1 rfl rfl) h1
  clear hA0 hval0
  refine (walk W _ _ _ _ g0_0 g1_0).mono fun e W' ⟨he, bel⟩ => ?_
  subst he
  exact ⟨_, rfl, _, _, _, [], _, [], hW', (trodAll_cons_mk (shut_bool Try.underlying4 _) trodAll_mk0), (trodAll_cons_mk (Below.trod laidOut (by kernel_rfl) (of_decide_eq_true (by kernel_rfl)) k0 bel lt0) (trodAll_cons_mk (Below.trod laidOut (by kernel_rfl) (of_decide_eq_true (by kernel_rfl)) k1 bel lt1) trodAll_mk0)), rfl, bel.frame _, fun h => by cases h⟩
theorem closed : joinedFacts Try.pinned.checked.prog 8 Try.f8 Rows.fnExactMergePagesSpec Rows.fnExactMergePagesRow = true := by
  unfold joinedFacts
  rw [mayE, lifF, mkP]
  kernel_rfl
theorem over : Rows.fnExactMergePagesRow.holds Try.pinned (OpenSpec.ofChange Rows.fnExactMergePagesSpec) :=
  OpenClaim.holds_of_wide 8 Try.f8 rfl rfl rfl rfl rfl rfl rfl ⟨rfl, rfl, rfl, rfl, rfl⟩ rfl rfl rfl rfl rfl (by kernel_rfl) Try.func8 closed
    (of_decide_eq_true (by kernel_rfl)) (by unfold Func.isWrapper; rw [if_neg (of_decide_eq_false (by kernel_rfl))]; exact ⟨rfl, rfl⟩)
    (fun os started H enc _ => lifted os started H enc)
theorem proved : Rows.FnExactMergePagesSaid := over
end Go.Proofs.Ytkoenlkoalbhlaa.fnExactMergePages
