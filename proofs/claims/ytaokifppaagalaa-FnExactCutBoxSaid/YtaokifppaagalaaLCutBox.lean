/- The statement of the law FnExactCutBox: whatever the input, the program's function answers as the model's, and the input reads as it did. Its conditions are the given statement's own; nothing is added. -/
import Derived.Test.YtaokifppaagalaaCutL
import Derived.Test.YtaokifppaagalaaFrmB
import Derived.ProofKit
import Derived.OpenShut
import Derived.ShutString
import Derived.ChangeOld
import Derived.Below
import Derived.Deep.DeepFit
import Derived.Deep.WholeRow
import Derived.Deep.RegionHeld3
namespace Go.Proofs.Ytaokifppaagalaa.fnExactCutBox
open Go.ChangeShapes Go.WideShapes Go.ChangeAt Go.RowKit
open Go.ChangeMaps (open_string shut_string)
set_option linter.unusedVariables false
set_option maxHeartbeats 16000000 in
set_option maxRecDepth 100000 in
theorem walk (w : World) (v0_0 : Value) (xs0_0 : List Int) (v0_1 : Value) (xs0_1 : List Int) (v1_0 : Value) (xs1_0 : List Int) (v1_1 : Value) (xs1_1 : List Int) (h0_0 : Ri w.heap.size w v0_0 xs0_0) (h0_1 : Ri w.heap.size w v0_1 xs0_1) (h1_0 : Ri w.heap.size w v1_0 xs1_0) (h1_1 : Ri w.heap.size w v1_1 xs1_1) :
    Calls Try.prog 12 #[.agg #[v0_0, v0_1], .agg #[v1_0, v1_1]] w (GivesB (.bool true) w) := by
  have H0_0 := Lib.hid h0_0; obtain ⟨A0_0, c0_0, rfl, _⟩ := h0_0
  have H0_1 := Lib.hid h0_1; obtain ⟨A0_1, c0_1, rfl, _⟩ := h0_1
  have H1_0 := Lib.hid h1_0; obtain ⟨A1_0, c1_0, rfl, _⟩ := h1_0
  have H1_1 := Lib.hid h1_1; obtain ⟨A1_1, c1_1, rfl, _⟩ := h1_1
  obtain ⟨D, hD⟩ : ∃ D, cutLo xs0_0 xs0_1 xs1_0 xs1_1 = D := ⟨_, rfl⟩
  obtain ⟨M, hM⟩ : ∃ M, cutHi xs0_0 xs0_1 xs1_0 xs1_1 = M := ⟨_, rfl⟩
  obtain ⟨ok, hE⟩ : ∃ b, cutOk xs0_0 xs0_1 xs1_0 xs1_1 = b := ⟨_, rfl⟩
  have HD := Lib.hid hD; have HM := Lib.hid hM; have HE := Lib.hid hE
  have ID : Hid (∀ x ∈ D, InI x) := Lib.hid (hD ▸ cutLo_in H0_0.out.inI H1_0.out.inI)
  have IM : Hid (∀ x ∈ M, InI x) := Lib.hid (hM ▸ cutHi_in H0_1.out.inI H1_1.out.inI)
  have LD0 : Hid (xs0_0.length ≤ 1048576 → D.length ≤ 1048576) := Lib.hid (hD ▸ cutLo_le)
  have LM0 : Hid (xs0_1.length ≤ 1048576 → M.length ≤ 1048576) := Lib.hid (hM ▸ cutHi_le)
  clear hD hM hE
  have HB0 : Hid (Below w.heap.size w ((w.alloc (.cells #[.slice A0_0 xs0_0.length c0_0, .slice A0_1 xs0_1.length c0_1] 52)).alloc (.cells #[.slice A1_0 xs1_0.length c1_0, .slice A1_1 xs1_1.length c1_1] 52))) := Lib.hid (((Below.refl _ _).alloc (Nat.le_refl _) _).alloc (by simp) _)
  have SZ0 : Hid (w.heap.size + 2 ≤ ((w.alloc (.cells #[.slice A0_0 xs0_0.length c0_0, .slice A0_1 xs0_1.length c0_1] 52)).alloc (.cells #[.slice A1_0 xs1_0.length c1_0, .slice A1_1 xs1_1.length c1_1] 52)).heap.size) := Lib.hid (by simp)
  have P00_0 : Hid (((w.alloc (.cells #[.slice A0_0 xs0_0.length c0_0, .slice A0_1 xs0_1.length c0_1] 52)).alloc (.cells #[.slice A1_0 xs1_0.length c1_0, .slice A1_1 xs1_1.length c1_1] 52)).cell? ⟨w.heap.size, 0, none⟩ = some (.slice A0_0 xs0_0.length c0_0)) := Lib.hid (by rw [cell_of_row _ _ _ _ _ _ (heap_alloc2_old w _ _)]; rfl)
  have P01_0 : Hid (((w.alloc (.cells #[.slice A0_0 xs0_0.length c0_0, .slice A0_1 xs0_1.length c0_1] 52)).alloc (.cells #[.slice A1_0 xs1_0.length c1_0, .slice A1_1 xs1_1.length c1_1] 52)).cell? ⟨w.heap.size, 1, none⟩ = some (.slice A0_1 xs0_1.length c0_1)) := Lib.hid (by rw [cell_of_row _ _ _ _ _ _ (heap_alloc2_old w _ _)]; rfl)
  have P10_0 : Hid (((w.alloc (.cells #[.slice A0_0 xs0_0.length c0_0, .slice A0_1 xs0_1.length c0_1] 52)).alloc (.cells #[.slice A1_0 xs1_0.length c1_0, .slice A1_1 xs1_1.length c1_1] 52)).cell? ⟨w.heap.size + 1, 0, none⟩ = some (.slice A1_0 xs1_0.length c1_0)) := Lib.hid (by rw [cell_of_row _ _ _ _ _ _ (heap_alloc2_new w _ _)]; rfl)
  have P11_0 : Hid (((w.alloc (.cells #[.slice A0_0 xs0_0.length c0_0, .slice A0_1 xs0_1.length c0_1] 52)).alloc (.cells #[.slice A1_0 xs1_0.length c1_0, .slice A1_1 xs1_1.length c1_1] 52)).cell? ⟨w.heap.size + 1, 1, none⟩ = some (.slice A1_1 xs1_1.length c1_1)) := Lib.hid (by rw [cell_of_row _ _ _ _ _ _ (heap_alloc2_new w _ _)]; rfl)
  go_enter Try.func12, Try.ntmps12
  go_wp2_with fail
  generalize ((w.alloc (.cells #[.slice A0_0 xs0_0.length c0_0, .slice A0_1 xs0_1.length c0_1] 52)).alloc (.cells #[.slice A1_0 xs1_0.length c1_0, .slice A1_1 xs1_1.length c1_1] 52)) = w0 at *
  refine (szBox_any (H0_0.out.at (Nat.le_refl _) HB0.out) (H0_1.out.at (Nat.le_refl _) HB0.out) (Nat.le_refl _) (1048576) (by omega) (by omega)).mono ?_
  rintro e w1 ⟨l0, rfl, hl0, hL0, hp, g⟩
  have P0 := Lib.hid hp; have G1 := Lib.hid g; have SZ1 : Hid (w0.heap.size ≤ w1.heap.size) := Lib.hid g.size; clear hp g
  have P00_1 : Hid (w1.cell? ⟨w.heap.size, 0, none⟩ = some (.slice A0_0 xs0_0.length c0_0)) := Lib.hid (oldcell G1.out P00_0.out)
  have P01_1 : Hid (w1.cell? ⟨w.heap.size, 1, none⟩ = some (.slice A0_1 xs0_1.length c0_1)) := Lib.hid (oldcell G1.out P01_0.out)
  have P10_1 : Hid (w1.cell? ⟨w.heap.size + 1, 0, none⟩ = some (.slice A1_0 xs1_0.length c1_0)) := Lib.hid (oldcell G1.out P10_0.out)
  have P11_1 : Hid (w1.cell? ⟨w.heap.size + 1, 1, none⟩ = some (.slice A1_1 xs1_1.length c1_1)) := Lib.hid (oldcell G1.out P11_0.out)
  have HB1 : Hid (Below w.heap.size w w1) := Lib.hid (HB0.out.trans (G1.out.mono HB0.out.size))
  by_cases neg0 : l0 < 0
  · have qP00 := P00_1.out; have qP01 := P01_1.out; have qP10 := P10_1.out; have qP11 := P11_1.out
    go_wp2_with fail
    go_ret
    exact ⟨rfl, HB1.out⟩
  have SM0 := Lib.hid (P0.out (by omega))
  have qP00 := P00_1.out
  have qP01 := P01_1.out
  have qP10 := P10_1.out
  have qP11 := P11_1.out
  go_wp2_with fail
  clear qP00 qP01 qP10 qP11
  refine (szBox_any (H1_0.out.at (Nat.le_refl _) HB1.out) (H1_1.out.at (Nat.le_refl _) HB1.out) (Nat.le_refl _) (l0) (by omega) (by omega)).mono ?_
  rintro e w2 ⟨l1, rfl, hl1, hL1, hp, g⟩
  have P1 := Lib.hid hp; have G2 := Lib.hid g; have SZ2 : Hid (w1.heap.size ≤ w2.heap.size) := Lib.hid g.size; clear hp g
  have P00_2 : Hid (w2.cell? ⟨w.heap.size, 0, none⟩ = some (.slice A0_0 xs0_0.length c0_0)) := Lib.hid (oldcell G2.out P00_1.out)
  have P01_2 : Hid (w2.cell? ⟨w.heap.size, 1, none⟩ = some (.slice A0_1 xs0_1.length c0_1)) := Lib.hid (oldcell G2.out P01_1.out)
  have P10_2 : Hid (w2.cell? ⟨w.heap.size + 1, 0, none⟩ = some (.slice A1_0 xs1_0.length c1_0)) := Lib.hid (oldcell G2.out P10_1.out)
  have P11_2 : Hid (w2.cell? ⟨w.heap.size + 1, 1, none⟩ = some (.slice A1_1 xs1_1.length c1_1)) := Lib.hid (oldcell G2.out P11_1.out)
  have HB2 : Hid (Below w.heap.size w w2) := Lib.hid (HB1.out.trans (G2.out.mono HB1.out.size))
  by_cases neg1 : l1 < 0
  · have qP00 := P00_2.out; have qP01 := P01_2.out; have qP10 := P10_2.out; have qP11 := P11_2.out
    go_wp2_with fail
    go_ret
    exact ⟨rfl, HB2.out⟩
  have SM1 := Lib.hid (P1.out (by omega))
  have LD := Lib.hid (LD0.out SM0.out.1); have LM := Lib.hid (LM0.out SM0.out.2)
  have qP00 := P00_2.out
  have qP01 := P01_2.out
  have qP10 := P10_2.out
  have qP11 := P11_2.out
  go_wp2
  clear qP00 qP01 qP10 qP11
  have HSZ : Hid (∀ W, Below w2.heap.size w2 W → W.cell? ⟨w.heap.size, 0, none⟩ = some (.slice A0_0 xs0_0.length c0_0) ∧ W.cell? ⟨w.heap.size, 1, none⟩ = some (.slice A0_1 xs0_1.length c0_1) ∧ W.cell? ⟨w.heap.size + 1, 0, none⟩ = some (.slice A1_0 xs1_0.length c1_0) ∧ W.cell? ⟨w.heap.size + 1, 1, none⟩ = some (.slice A1_1 xs1_1.length c1_1)) := Lib.hid (fun W hW => ⟨oldcell hW P00_2.out, oldcell hW P01_2.out, oldcell hW P10_2.out, oldcell hW P11_2.out⟩)
  have HDrZ : Hid (Below w2.heap.size w2 w2.drew) := Lib.hid (Below.refl _ _).drew
  apply wp_drawn w2 55 D M
  · refine wp_region_held_drew (S := fun W => W.cell? ⟨w.heap.size, 0, none⟩ = some (.slice A0_0 xs0_0.length c0_0) ∧ W.cell? ⟨w.heap.size, 1, none⟩ = some (.slice A0_1 xs0_1.length c0_1) ∧ W.cell? ⟨w.heap.size + 1, 0, none⟩ = some (.slice A1_0 xs1_0.length c1_0) ∧ W.cell? ⟨w.heap.size + 1, 1, none⟩ = some (.slice A1_1 xs1_1.length c1_1)) (by kernel_rfl) (HSZ.out _ HDrZ.out) (fun hHeld => ?_)
    refine held_yes 0 (some 28) rfl rfl (by kernel_rfl) (by kernel_rfl) (by kernel_rfl) (fun _ _ _ h => h) (by kernel_rfl) hHeld (v := ?_) (fun wz hSw => ?_) ?_
    rotate_left 1
    · (try dsimp only at hSw); go_simp; (try with_reducible rfl)
    try simp only [Act.put, List.setIfInBounds_toArray, List.set_cons_zero, List.set_cons_succ]
    refine held_yes 2 (some 30) rfl rfl (by kernel_rfl) (by kernel_rfl) (by kernel_rfl) (fun _ _ _ h => h) (by kernel_rfl) hHeld (v := ?_) (fun wz hSw => ?_) ?_
    rotate_left 1
    · (try dsimp only at hSw); go_simp; (try with_reducible rfl)
    try simp only [Act.put, List.setIfInBounds_toArray, List.set_cons_zero, List.set_cons_succ]
    refine wpAnyH_ready (rs := [1, 8]) (by kernel_rfl) (by simp) ?_
    refine AllReadyH.cons rfl (fun K hK => ?_) (AllReadyH.cons rfl (fun K hK => ?_) AllReadyH.nil)
    · skip
      go_simp
      go_at_call 39
      go_fit (toBox_rd (H0_0.out.at (Nat.le_refl _) (HB2.out.trans ((HDrZ.out).mono HB2.out.size))) (H0_1.out.at (Nat.le_refl _) (HB2.out.trans ((HDrZ.out).mono HB2.out.size))) (Nat.le_refl _) SM0.out)
      rintro e u1Z ⟨T0, T1, rfl, ra, rb, g⟩
      have RT0 := Lib.hid ra; have RT1 := Lib.hid rb; clear ra rb
      have kb1 : Below w2.heap.size w2 u1Z := (HDrZ.out).trans (g.mono (HDrZ.out).size)
      have g1 := g; clear g
      refine hK.out _ _ (HSZ.out _ kb1) (fun hHeld => ?_)
      clear hK K
      try simp only [Act.put, List.setIfInBounds_toArray, List.set_cons_zero, List.set_cons_succ]
      refine wpAnyH_ready (rs := [3, 8]) (by kernel_rfl) (by simp) ?_
      refine AllReadyH.cons rfl (fun K hK => ?_) (AllReadyH.cons rfl (fun K hK => ?_) AllReadyH.nil)
      · skip
        go_simp
        go_at_call 39
        go_fit (toBox_rd (H1_0.out.at (Nat.le_refl _) (HB2.out.trans ((kb1).mono HB2.out.size))) (H1_1.out.at (Nat.le_refl _) (HB2.out.trans ((kb1).mono HB2.out.size))) (Nat.le_refl _) SM1.out)
        rintro e u2Z ⟨U0, U1, rfl, ra, rb, g⟩
        have RU0 := Lib.hid ra; have RU1 := Lib.hid rb; clear ra rb
        have kb2 : Below w2.heap.size w2 u2Z := (kb1).trans (g.mono (kb1).size)
        have g2 := g; clear g
        refine hK.out _ _ (HSZ.out _ kb2) (fun hHeld => ?_)
        clear hK K
        try simp only [Act.put, List.setIfInBounds_toArray, List.set_cons_zero, List.set_cons_succ]
        refine wpAnyH_ready (rs := [4, 8]) (by kernel_rfl) (by simp) ?_
        refine AllReadyH.cons rfl (fun K hK => ?_) (AllReadyH.cons rfl (fun K hK => ?_) AllReadyH.nil)
        · skip
          go_simp
          go_at_call 51
          have kT : Below u1Z.heap.size u1Z (u2Z) := g2
          have kU : Below u2Z.heap.size u2Z (u2Z) := Below.refl _ _
          go_fit (sCut_is HD.out HM.out HE.out (RT0.out.at (Nat.le_refl _) kT) (RT1.out.at (Nat.le_refl _) kT) (RU0.out.at (Nat.le_refl _) kU) (RU1.out.at (Nat.le_refl _) kU) (Nat.le_refl _))
          rintro e u3Z ⟨Z0, Z1, d0, d1, rfl, oa, ob, -, g⟩
          skip
          have kb3 : Below w2.heap.size w2 u3Z := (kb2).trans (g.mono (kb2).size)
          have g3 := g; clear g
          refine hK.out _ _ (HSZ.out _ kb3) (fun hHeld => ?_)
          clear hK K
          try simp only [Act.put, List.setIfInBounds_toArray, List.set_cons_zero, List.set_cons_succ]
          refine held_yes 5 (some 27) rfl rfl (by kernel_rfl) (by kernel_rfl) (by kernel_rfl) (fun _ _ _ h => h) (by kernel_rfl) hHeld (v := ?_) (fun wz hSw => ?_) ?_
          rotate_left 1
          · (try dsimp only at hSw); go_simp; (try with_reducible rfl)
          try simp only [Act.put, List.setIfInBounds_toArray, List.set_cons_zero, List.set_cons_succ]
          refine held_yes 6 (some 33) rfl rfl (by kernel_rfl) (by kernel_rfl) (by kernel_rfl) (fun _ _ _ h => h) (by kernel_rfl) hHeld (v := ?_) (fun wz hSw => ?_) ?_
          rotate_left 1
          · (try dsimp only at hSw); go_simp; (try with_reducible rfl)
          try simp only [Act.put, List.setIfInBounds_toArray, List.set_cons_zero, List.set_cons_succ]
          refine held_yes 7 (some 34) rfl rfl (by kernel_rfl) (by kernel_rfl) (by kernel_rfl) (fun _ _ _ h => h) (by kernel_rfl) hHeld (v := ?_) (fun wz hSw => ?_) ?_
          rotate_left 1
          · (try dsimp only at hSw); go_simp; (try with_reducible rfl)
          try simp only [Act.put, List.setIfInBounds_toArray, List.set_cons_zero, List.set_cons_succ]
          refine wpAnyH_ready (rs := [8]) (by kernel_rfl) (by simp) ?_
          refine AllReadyH.cons rfl (fun K hK => ?_) AllReadyH.nil
          go_simp
          have kbA := (kb3).alloc (kb3).size (.cells #[.slice none 0 0, .slice none 0 0] 55)
          have ryA : Two (u3Z.alloc (.cells #[.slice none 0 0, .slice none 0 0] 55)) u3Z.heap.size 55 (.slice none 0 0) (.slice none 0 0) := Two.new _ _ _ _
          refine hK.out _ _ (HSZ.out _ kbA) (fun hHeld => ?_)
          clear hK K
          try simp only [Act.put, List.setIfInBounds_toArray, List.set_cons_zero, List.set_cons_succ]
          have y0 := (ryA).c0; have y1 := (ryA).c1; have y2 := (ryA).f 0; have y3 := (ryA).f 1
          skip
          refine wpAnyH_ready (rs := [9]) (by kernel_rfl) (by simp) ?_
          refine AllReadyH.cons rfl (fun K hK => ?_) AllReadyH.nil
          go_simp
          have F := finC (t := 55) (kb3) oa ob (kb2.size)
          refine hK.out _ _ (HSZ.out _ F.2.2.2.1) (fun hHeld => ?_)
          clear hK K y0 y1 y2 y3
          try simp only [Act.put, List.setIfInBounds_toArray, List.set_cons_zero, List.set_cons_succ]
          refine held_yes 10 (some 7) rfl rfl (by kernel_rfl) (by kernel_rfl) (by kernel_rfl) (fun _ _ _ h => h) (by kernel_rfl) hHeld (v := ?_) (fun wz hSw => ?_) ?_
          rotate_left 1
          · (try dsimp only at hSw); go_simp; (try with_reducible rfl)
          try simp only [Act.put, List.setIfInBounds_toArray, List.set_cons_zero, List.set_cons_succ]
          refine wpAnyH_done (by kernel_rfl) ?_ _
          revert F
          generalize u3Z.heap.size = b6
          intro F
          exact ⟨T0, T1, U0, U1, Z0, Z1, d0, d1, b6, rfl, F⟩
        · skip
          go_simp
          have kbA := (kb2).alloc (kb2).size (.cells #[.slice none 0 0, .slice none 0 0] 55)
          have ryA : Two (u2Z.alloc (.cells #[.slice none 0 0, .slice none 0 0] 55)) u2Z.heap.size 55 (.slice none 0 0) (.slice none 0 0) := Two.new _ _ _ _
          refine hK.out _ _ (HSZ.out _ kbA) (fun hHeld => ?_)
          clear hK K
          try simp only [Act.put, List.setIfInBounds_toArray, List.set_cons_zero, List.set_cons_succ]
          refine wpAnyH_ready (rs := [4]) (by kernel_rfl) (by simp) ?_
          refine AllReadyH.cons rfl (fun K hK => ?_) AllReadyH.nil
          go_simp
          go_at_call 51
          have kT : Below u1Z.heap.size u1Z (u2Z.alloc (.cells #[.slice none 0 0, .slice none 0 0] 55)) := g2.alloc g2.size _
          have kU : Below u2Z.heap.size u2Z (u2Z.alloc (.cells #[.slice none 0 0, .slice none 0 0] 55)) := (Below.refl _ _).alloc (Nat.le_refl _) _
          go_fit (sCut_is HD.out HM.out HE.out (RT0.out.at (Nat.le_refl _) kT) (RT1.out.at (Nat.le_refl _) kT) (RU0.out.at (Nat.le_refl _) kU) (RU1.out.at (Nat.le_refl _) kU) (Nat.le_refl _))
          rintro e u3Z ⟨Z0, Z1, d0, d1, rfl, oa, ob, -, g⟩
          skip
          have kb3 : Below w2.heap.size w2 u3Z := (kbA).trans (g.mono (kbA).size)
          have ry3 := (ryA).keep g
          have g3 := g; clear g
          refine hK.out _ _ (HSZ.out _ kb3) (fun hHeld => ?_)
          clear hK K
          try simp only [Act.put, List.setIfInBounds_toArray, List.set_cons_zero, List.set_cons_succ]
          refine held_yes 5 (some 27) rfl rfl (by kernel_rfl) (by kernel_rfl) (by kernel_rfl) (fun _ _ _ h => h) (by kernel_rfl) hHeld (v := ?_) (fun wz hSw => ?_) ?_
          rotate_left 1
          · (try dsimp only at hSw); go_simp; (try with_reducible rfl)
          try simp only [Act.put, List.setIfInBounds_toArray, List.set_cons_zero, List.set_cons_succ]
          refine held_yes 6 (some 33) rfl rfl (by kernel_rfl) (by kernel_rfl) (by kernel_rfl) (fun _ _ _ h => h) (by kernel_rfl) hHeld (v := ?_) (fun wz hSw => ?_) ?_
          rotate_left 1
          · (try dsimp only at hSw); go_simp; (try with_reducible rfl)
          try simp only [Act.put, List.setIfInBounds_toArray, List.set_cons_zero, List.set_cons_succ]
          refine held_yes 7 (some 34) rfl rfl (by kernel_rfl) (by kernel_rfl) (by kernel_rfl) (fun _ _ _ h => h) (by kernel_rfl) hHeld (v := ?_) (fun wz hSw => ?_) ?_
          rotate_left 1
          · (try dsimp only at hSw); go_simp; (try with_reducible rfl)
          try simp only [Act.put, List.setIfInBounds_toArray, List.set_cons_zero, List.set_cons_succ]
          have y0 := (ry3).c0; have y1 := (ry3).c1; have y2 := (ry3).f 0; have y3 := (ry3).f 1
          skip
          refine wpAnyH_ready (rs := [9]) (by kernel_rfl) (by simp) ?_
          refine AllReadyH.cons rfl (fun K hK => ?_) AllReadyH.nil
          go_simp
          have F := finB (lo := (u2Z.alloc (.cells #[.slice none 0 0, .slice none 0 0] 55)).heap.size) (kb3) (ry3) oa ob ((kb2.alloc kb2.size _).size) (kb2.size) (.inl (by simp))
          refine hK.out _ _ (HSZ.out _ F.2.2.2.1) (fun hHeld => ?_)
          clear hK K y0 y1 y2 y3
          try simp only [Act.put, List.setIfInBounds_toArray, List.set_cons_zero, List.set_cons_succ]
          refine held_yes 10 (some 7) rfl rfl (by kernel_rfl) (by kernel_rfl) (by kernel_rfl) (fun _ _ _ h => h) (by kernel_rfl) hHeld (v := ?_) (fun wz hSw => ?_) ?_
          rotate_left 1
          · (try dsimp only at hSw); go_simp; (try with_reducible rfl)
          try simp only [Act.put, List.setIfInBounds_toArray, List.set_cons_zero, List.set_cons_succ]
          refine wpAnyH_done (by kernel_rfl) ?_ _
          revert F
          generalize u2Z.heap.size = b6
          intro F
          exact ⟨T0, T1, U0, U1, Z0, Z1, d0, d1, b6, rfl, F⟩
      · skip
        go_simp
        have kbA := (kb1).alloc (kb1).size (.cells #[.slice none 0 0, .slice none 0 0] 55)
        have ryA : Two (u1Z.alloc (.cells #[.slice none 0 0, .slice none 0 0] 55)) u1Z.heap.size 55 (.slice none 0 0) (.slice none 0 0) := Two.new _ _ _ _
        refine hK.out _ _ (HSZ.out _ kbA) (fun hHeld => ?_)
        clear hK K
        try simp only [Act.put, List.setIfInBounds_toArray, List.set_cons_zero, List.set_cons_succ]
        refine wpAnyH_ready (rs := [3]) (by kernel_rfl) (by simp) ?_
        refine AllReadyH.cons rfl (fun K hK => ?_) AllReadyH.nil
        go_simp
        go_at_call 39
        go_fit (toBox_rd (H1_0.out.at (Nat.le_refl _) (HB2.out.trans ((kbA).mono HB2.out.size))) (H1_1.out.at (Nat.le_refl _) (HB2.out.trans ((kbA).mono HB2.out.size))) (Nat.le_refl _) SM1.out)
        rintro e u2Z ⟨U0, U1, rfl, ra, rb, g⟩
        have RU0 := Lib.hid ra; have RU1 := Lib.hid rb; clear ra rb
        have kb2 : Below w2.heap.size w2 u2Z := (kbA).trans (g.mono (kbA).size)
        have ry2 := (ryA).keep g
        have g2 := g; clear g
        refine hK.out _ _ (HSZ.out _ kb2) (fun hHeld => ?_)
        clear hK K
        try simp only [Act.put, List.setIfInBounds_toArray, List.set_cons_zero, List.set_cons_succ]
        refine wpAnyH_ready (rs := [4]) (by kernel_rfl) (by simp) ?_
        refine AllReadyH.cons rfl (fun K hK => ?_) AllReadyH.nil
        go_simp
        go_at_call 51
        have kT : Below u1Z.heap.size u1Z (u2Z) := ((Below.refl _ _).alloc (Nat.le_refl _) _).trans (g2.mono (by simp))
        have kU : Below u2Z.heap.size u2Z (u2Z) := Below.refl _ _
        go_fit (sCut_is HD.out HM.out HE.out (RT0.out.at (Nat.le_refl _) kT) (RT1.out.at (Nat.le_refl _) kT) (RU0.out.at (Nat.le_refl _) kU) (RU1.out.at (Nat.le_refl _) kU) (Nat.le_refl _))
        rintro e u3Z ⟨Z0, Z1, d0, d1, rfl, oa, ob, -, g⟩
        skip
        have kb3 : Below w2.heap.size w2 u3Z := (kb2).trans (g.mono (kb2).size)
        have ry3 := (ry2).keep g
        have g3 := g; clear g
        refine hK.out _ _ (HSZ.out _ kb3) (fun hHeld => ?_)
        clear hK K
        try simp only [Act.put, List.setIfInBounds_toArray, List.set_cons_zero, List.set_cons_succ]
        refine held_yes 5 (some 27) rfl rfl (by kernel_rfl) (by kernel_rfl) (by kernel_rfl) (fun _ _ _ h => h) (by kernel_rfl) hHeld (v := ?_) (fun wz hSw => ?_) ?_
        rotate_left 1
        · (try dsimp only at hSw); go_simp; (try with_reducible rfl)
        try simp only [Act.put, List.setIfInBounds_toArray, List.set_cons_zero, List.set_cons_succ]
        refine held_yes 6 (some 33) rfl rfl (by kernel_rfl) (by kernel_rfl) (by kernel_rfl) (fun _ _ _ h => h) (by kernel_rfl) hHeld (v := ?_) (fun wz hSw => ?_) ?_
        rotate_left 1
        · (try dsimp only at hSw); go_simp; (try with_reducible rfl)
        try simp only [Act.put, List.setIfInBounds_toArray, List.set_cons_zero, List.set_cons_succ]
        refine held_yes 7 (some 34) rfl rfl (by kernel_rfl) (by kernel_rfl) (by kernel_rfl) (fun _ _ _ h => h) (by kernel_rfl) hHeld (v := ?_) (fun wz hSw => ?_) ?_
        rotate_left 1
        · (try dsimp only at hSw); go_simp; (try with_reducible rfl)
        try simp only [Act.put, List.setIfInBounds_toArray, List.set_cons_zero, List.set_cons_succ]
        have y0 := (ry3).c0; have y1 := (ry3).c1; have y2 := (ry3).f 0; have y3 := (ry3).f 1
        skip
        refine wpAnyH_ready (rs := [9]) (by kernel_rfl) (by simp) ?_
        refine AllReadyH.cons rfl (fun K hK => ?_) AllReadyH.nil
        go_simp
        have F := finB (lo := u2Z.heap.size) (kb3) (ry3) oa ob (kb2.size) (kb1.size) (.inl (by have := ry2.lt; omega))
        refine hK.out _ _ (HSZ.out _ F.2.2.2.1) (fun hHeld => ?_)
        clear hK K y0 y1 y2 y3
        try simp only [Act.put, List.setIfInBounds_toArray, List.set_cons_zero, List.set_cons_succ]
        refine held_yes 10 (some 7) rfl rfl (by kernel_rfl) (by kernel_rfl) (by kernel_rfl) (fun _ _ _ h => h) (by kernel_rfl) hHeld (v := ?_) (fun wz hSw => ?_) ?_
        rotate_left 1
        · (try dsimp only at hSw); go_simp; (try with_reducible rfl)
        try simp only [Act.put, List.setIfInBounds_toArray, List.set_cons_zero, List.set_cons_succ]
        refine wpAnyH_done (by kernel_rfl) ?_ _
        revert F
        generalize u1Z.heap.size = b6
        intro F
        exact ⟨T0, T1, U0, U1, Z0, Z1, d0, d1, b6, rfl, F⟩
    · skip
      go_simp
      have kbA := (HDrZ.out).alloc (HDrZ.out).size (.cells #[.slice none 0 0, .slice none 0 0] 55)
      have ryA : Two (w2.drew.alloc (.cells #[.slice none 0 0, .slice none 0 0] 55)) w2.heap.size 55 (.slice none 0 0) (.slice none 0 0) := Two.new _ _ _ _
      refine hK.out _ _ (HSZ.out _ kbA) (fun hHeld => ?_)
      clear hK K
      try simp only [Act.put, List.setIfInBounds_toArray, List.set_cons_zero, List.set_cons_succ]
      refine wpAnyH_ready (rs := [1]) (by kernel_rfl) (by simp) ?_
      refine AllReadyH.cons rfl (fun K hK => ?_) AllReadyH.nil
      go_simp
      go_at_call 39
      go_fit (toBox_rd (H0_0.out.at (Nat.le_refl _) (HB2.out.trans ((kbA).mono HB2.out.size))) (H0_1.out.at (Nat.le_refl _) (HB2.out.trans ((kbA).mono HB2.out.size))) (Nat.le_refl _) SM0.out)
      rintro e u1Z ⟨T0, T1, rfl, ra, rb, g⟩
      have RT0 := Lib.hid ra; have RT1 := Lib.hid rb; clear ra rb
      have kb1 : Below w2.heap.size w2 u1Z := (kbA).trans (g.mono (kbA).size)
      have ry1 := (ryA).keep g
      have g1 := g; clear g
      refine hK.out _ _ (HSZ.out _ kb1) (fun hHeld => ?_)
      clear hK K
      try simp only [Act.put, List.setIfInBounds_toArray, List.set_cons_zero, List.set_cons_succ]
      refine wpAnyH_ready (rs := [3]) (by kernel_rfl) (by simp) ?_
      refine AllReadyH.cons rfl (fun K hK => ?_) AllReadyH.nil
      go_simp
      go_at_call 39
      go_fit (toBox_rd (H1_0.out.at (Nat.le_refl _) (HB2.out.trans ((kb1).mono HB2.out.size))) (H1_1.out.at (Nat.le_refl _) (HB2.out.trans ((kb1).mono HB2.out.size))) (Nat.le_refl _) SM1.out)
      rintro e u2Z ⟨U0, U1, rfl, ra, rb, g⟩
      have RU0 := Lib.hid ra; have RU1 := Lib.hid rb; clear ra rb
      have kb2 : Below w2.heap.size w2 u2Z := (kb1).trans (g.mono (kb1).size)
      have ry2 := (ry1).keep g
      have g2 := g; clear g
      refine hK.out _ _ (HSZ.out _ kb2) (fun hHeld => ?_)
      clear hK K
      try simp only [Act.put, List.setIfInBounds_toArray, List.set_cons_zero, List.set_cons_succ]
      refine wpAnyH_ready (rs := [4]) (by kernel_rfl) (by simp) ?_
      refine AllReadyH.cons rfl (fun K hK => ?_) AllReadyH.nil
      go_simp
      go_at_call 51
      have kT : Below u1Z.heap.size u1Z (u2Z) := g2
      have kU : Below u2Z.heap.size u2Z (u2Z) := Below.refl _ _
      go_fit (sCut_is HD.out HM.out HE.out (RT0.out.at (Nat.le_refl _) kT) (RT1.out.at (Nat.le_refl _) kT) (RU0.out.at (Nat.le_refl _) kU) (RU1.out.at (Nat.le_refl _) kU) (Nat.le_refl _))
      rintro e u3Z ⟨Z0, Z1, d0, d1, rfl, oa, ob, -, g⟩
      skip
      have kb3 : Below w2.heap.size w2 u3Z := (kb2).trans (g.mono (kb2).size)
      have ry3 := (ry2).keep g
      have g3 := g; clear g
      refine hK.out _ _ (HSZ.out _ kb3) (fun hHeld => ?_)
      clear hK K
      try simp only [Act.put, List.setIfInBounds_toArray, List.set_cons_zero, List.set_cons_succ]
      refine held_yes 5 (some 27) rfl rfl (by kernel_rfl) (by kernel_rfl) (by kernel_rfl) (fun _ _ _ h => h) (by kernel_rfl) hHeld (v := ?_) (fun wz hSw => ?_) ?_
      rotate_left 1
      · (try dsimp only at hSw); go_simp; (try with_reducible rfl)
      try simp only [Act.put, List.setIfInBounds_toArray, List.set_cons_zero, List.set_cons_succ]
      refine held_yes 6 (some 33) rfl rfl (by kernel_rfl) (by kernel_rfl) (by kernel_rfl) (fun _ _ _ h => h) (by kernel_rfl) hHeld (v := ?_) (fun wz hSw => ?_) ?_
      rotate_left 1
      · (try dsimp only at hSw); go_simp; (try with_reducible rfl)
      try simp only [Act.put, List.setIfInBounds_toArray, List.set_cons_zero, List.set_cons_succ]
      refine held_yes 7 (some 34) rfl rfl (by kernel_rfl) (by kernel_rfl) (by kernel_rfl) (fun _ _ _ h => h) (by kernel_rfl) hHeld (v := ?_) (fun wz hSw => ?_) ?_
      rotate_left 1
      · (try dsimp only at hSw); go_simp; (try with_reducible rfl)
      try simp only [Act.put, List.setIfInBounds_toArray, List.set_cons_zero, List.set_cons_succ]
      have y0 := (ry3).c0; have y1 := (ry3).c1; have y2 := (ry3).f 0; have y3 := (ry3).f 1
      skip
      refine wpAnyH_ready (rs := [9]) (by kernel_rfl) (by simp) ?_
      refine AllReadyH.cons rfl (fun K hK => ?_) AllReadyH.nil
      go_simp
      have F := finB (lo := u2Z.heap.size) (kb3) (ry3) oa ob (kb2.size) (Nat.le_refl _) (.inl (by have := ry2.lt; omega))
      refine hK.out _ _ (HSZ.out _ F.2.2.2.1) (fun hHeld => ?_)
      clear hK K y0 y1 y2 y3
      try simp only [Act.put, List.setIfInBounds_toArray, List.set_cons_zero, List.set_cons_succ]
      refine held_yes 10 (some 7) rfl rfl (by kernel_rfl) (by kernel_rfl) (by kernel_rfl) (fun _ _ _ h => h) (by kernel_rfl) hHeld (v := ?_) (fun wz hSw => ?_) ?_
      rotate_left 1
      · (try dsimp only at hSw); go_simp; (try with_reducible rfl)
      try simp only [Act.put, List.setIfInBounds_toArray, List.set_cons_zero, List.set_cons_succ]
      refine wpAnyH_done (by kernel_rfl) ?_ _
      revert F
      generalize w2.heap.size = b6
      intro F
      exact ⟨T0, T1, U0, U1, Z0, Z1, d0, d1, b6, rfl, F⟩
  rintro a' w3 ⟨T0Z, T1Z, U0Z, U1Z, ZA0, ZA1, Zc0, Zc1, bZ, rfl, F⟩
  have SZ3 : Hid (w2.heap.size ≤ w3.heap.size ∧ w2.heap.size ≤ bZ ∧ bZ < w3.heap.size) := Lib.hid ⟨F.2.2.2.1.size, F.2.2.2.2, F.1.lt⟩
  have G3 := Lib.hid F.2.2.2.1
  have P00_3 : Hid (w3.cell? ⟨w.heap.size, 0, none⟩ = some (.slice A0_0 xs0_0.length c0_0)) := Lib.hid (oldcell G3.out P00_2.out)
  have P01_3 : Hid (w3.cell? ⟨w.heap.size, 1, none⟩ = some (.slice A0_1 xs0_1.length c0_1)) := Lib.hid (oldcell G3.out P01_2.out)
  have P10_3 : Hid (w3.cell? ⟨w.heap.size + 1, 0, none⟩ = some (.slice A1_0 xs1_0.length c1_0)) := Lib.hid (oldcell G3.out P10_2.out)
  have P11_3 : Hid (w3.cell? ⟨w.heap.size + 1, 1, none⟩ = some (.slice A1_1 xs1_1.length c1_1)) := Lib.hid (oldcell G3.out P11_2.out)
  have HB3 : Hid (Below w.heap.size w w3) := Lib.hid (HB2.out.trans (G3.out.mono HB2.out.size))
  have OZ0_3 : Hid (OI w3 w2.heap.size (.slice ZA0 D.length Zc0) D) := Lib.hid F.2.1
  have IZ0 := Lib.hid OZ0_3.out.wi
  have KZ0_3 : Hid (w3.cell? ⟨bZ, 0, none⟩ = some (.slice ZA0 D.length Zc0)) := Lib.hid F.1.c0
  have OZ1_3 : Hid (OI w3 w2.heap.size (.slice ZA1 M.length Zc1) M) := Lib.hid F.2.2.1
  have IZ1 := Lib.hid OZ1_3.out.wi
  have KZ1_3 : Hid (w3.cell? ⟨bZ, 1, none⟩ = some (.slice ZA1 M.length Zc1)) := Lib.hid F.1.c1
  clear F
  try simp only [Exit.then]
  have qP00 := P00_3.out
  have qP01 := P01_3.out
  have qP10 := P10_3.out
  have qP11 := P11_3.out
  have qKZ0 := KZ0_3.out
  have qKZ1 := KZ1_3.out
  go_wp2_with fail
  clear qP00 qP01 qP10 qP11 qKZ0 qKZ1
  refine (toBox_oi (H0_0.out.at (Nat.le_refl _) HB3.out) (H0_1.out.at (Nat.le_refl _) HB3.out) (Nat.le_refl _) SM0.out).mono ?_
  rintro e w4 ⟨BA0, BA1, rfl, oa, ob, hap, g⟩
  have G4 := Lib.hid g; have SZ4 : Hid (w3.heap.size ≤ w4.heap.size) := Lib.hid g.size; clear g
  have P00_4 : Hid (w4.cell? ⟨w.heap.size, 0, none⟩ = some (.slice A0_0 xs0_0.length c0_0)) := Lib.hid (oldcell G4.out P00_3.out)
  have P01_4 : Hid (w4.cell? ⟨w.heap.size, 1, none⟩ = some (.slice A0_1 xs0_1.length c0_1)) := Lib.hid (oldcell G4.out P01_3.out)
  have P10_4 : Hid (w4.cell? ⟨w.heap.size + 1, 0, none⟩ = some (.slice A1_0 xs1_0.length c1_0)) := Lib.hid (oldcell G4.out P10_3.out)
  have P11_4 : Hid (w4.cell? ⟨w.heap.size + 1, 1, none⟩ = some (.slice A1_1 xs1_1.length c1_1)) := Lib.hid (oldcell G4.out P11_3.out)
  have OZ0_4 : Hid (OI w4 w2.heap.size (.slice ZA0 D.length Zc0) D) := Lib.hid (OZ0_3.out.bel G4.out)
  have KZ0_4 : Hid (w4.cell? ⟨bZ, 0, none⟩ = some (.slice ZA0 D.length Zc0)) := Lib.hid (oldcell G4.out KZ0_3.out)
  have OZ1_4 : Hid (OI w4 w2.heap.size (.slice ZA1 M.length Zc1) M) := Lib.hid (OZ1_3.out.bel G4.out)
  have KZ1_4 : Hid (w4.cell? ⟨bZ, 1, none⟩ = some (.slice ZA1 M.length Zc1)) := Lib.hid (oldcell G4.out KZ1_3.out)
  have HB4 : Hid (Below w.heap.size w w4) := Lib.hid (HB3.out.trans (G4.out.mono HB3.out.size))
  have OB0_4 : Hid (OI w4 w3.heap.size (.slice BA0 xs0_0.length xs0_0.length) xs0_0) := Lib.hid oa; clear oa
  have OB1_4 : Hid (OI w4 w3.heap.size (.slice BA1 xs0_1.length xs0_1.length) xs0_1) := Lib.hid ob; clear ob
  have XB := Lib.hid hap; clear hap
  have IB0 := Lib.hid OB0_4.out.wi; have IB1 := Lib.hid OB1_4.out.wi
  have G5 : Hid (Below w4.heap.size w4 (w4.alloc (.cells #[.slice BA0 xs0_0.length xs0_0.length, .slice BA1 xs0_1.length xs0_1.length] 55))) := Lib.hid ((Below.refl _ _).alloc (Nat.le_refl _) _)
  have SZ5 : Hid (w4.heap.size + 1 ≤ (w4.alloc (.cells #[.slice BA0 xs0_0.length xs0_0.length, .slice BA1 xs0_1.length xs0_1.length] 55)).heap.size) := Lib.hid (by simp)
  have P00_5 : Hid ((w4.alloc (.cells #[.slice BA0 xs0_0.length xs0_0.length, .slice BA1 xs0_1.length xs0_1.length] 55)).cell? ⟨w.heap.size, 0, none⟩ = some (.slice A0_0 xs0_0.length c0_0)) := Lib.hid (oldcell G5.out P00_4.out)
  have P01_5 : Hid ((w4.alloc (.cells #[.slice BA0 xs0_0.length xs0_0.length, .slice BA1 xs0_1.length xs0_1.length] 55)).cell? ⟨w.heap.size, 1, none⟩ = some (.slice A0_1 xs0_1.length c0_1)) := Lib.hid (oldcell G5.out P01_4.out)
  have P10_5 : Hid ((w4.alloc (.cells #[.slice BA0 xs0_0.length xs0_0.length, .slice BA1 xs0_1.length xs0_1.length] 55)).cell? ⟨w.heap.size + 1, 0, none⟩ = some (.slice A1_0 xs1_0.length c1_0)) := Lib.hid (oldcell G5.out P10_4.out)
  have P11_5 : Hid ((w4.alloc (.cells #[.slice BA0 xs0_0.length xs0_0.length, .slice BA1 xs0_1.length xs0_1.length] 55)).cell? ⟨w.heap.size + 1, 1, none⟩ = some (.slice A1_1 xs1_1.length c1_1)) := Lib.hid (oldcell G5.out P11_4.out)
  have OZ0_5 : Hid (OI (w4.alloc (.cells #[.slice BA0 xs0_0.length xs0_0.length, .slice BA1 xs0_1.length xs0_1.length] 55)) w2.heap.size (.slice ZA0 D.length Zc0) D) := Lib.hid (OZ0_4.out.bel G5.out)
  have KZ0_5 : Hid ((w4.alloc (.cells #[.slice BA0 xs0_0.length xs0_0.length, .slice BA1 xs0_1.length xs0_1.length] 55)).cell? ⟨bZ, 0, none⟩ = some (.slice ZA0 D.length Zc0)) := Lib.hid (oldcell G5.out KZ0_4.out)
  have OZ1_5 : Hid (OI (w4.alloc (.cells #[.slice BA0 xs0_0.length xs0_0.length, .slice BA1 xs0_1.length xs0_1.length] 55)) w2.heap.size (.slice ZA1 M.length Zc1) M) := Lib.hid (OZ1_4.out.bel G5.out)
  have KZ1_5 : Hid ((w4.alloc (.cells #[.slice BA0 xs0_0.length xs0_0.length, .slice BA1 xs0_1.length xs0_1.length] 55)).cell? ⟨bZ, 1, none⟩ = some (.slice ZA1 M.length Zc1)) := Lib.hid (oldcell G5.out KZ1_4.out)
  have OB0_5 : Hid (OI (w4.alloc (.cells #[.slice BA0 xs0_0.length xs0_0.length, .slice BA1 xs0_1.length xs0_1.length] 55)) w3.heap.size (.slice BA0 xs0_0.length xs0_0.length) xs0_0) := Lib.hid (OB0_4.out.bel G5.out)
  have OB1_5 : Hid (OI (w4.alloc (.cells #[.slice BA0 xs0_0.length xs0_0.length, .slice BA1 xs0_1.length xs0_1.length] 55)) w3.heap.size (.slice BA1 xs0_1.length xs0_1.length) xs0_1) := Lib.hid (OB1_4.out.bel G5.out)
  have HB5 : Hid (Below w.heap.size w (w4.alloc (.cells #[.slice BA0 xs0_0.length xs0_0.length, .slice BA1 xs0_1.length xs0_1.length] 55))) := Lib.hid (HB4.out.trans (G5.out.mono HB4.out.size))
  have R0_5 : Hid ((w4.alloc (.cells #[.slice BA0 xs0_0.length xs0_0.length, .slice BA1 xs0_1.length xs0_1.length] 55)).cell? ⟨w4.heap.size, 0, none⟩ = some (.slice BA0 xs0_0.length xs0_0.length)) := Lib.hid (by rw [cell_of_row _ _ _ _ _ _ (heap_alloc_new w4 _)]; rfl)
  have R1_5 : Hid ((w4.alloc (.cells #[.slice BA0 xs0_0.length xs0_0.length, .slice BA1 xs0_1.length xs0_1.length] 55)).cell? ⟨w4.heap.size, 1, none⟩ = some (.slice BA1 xs0_1.length xs0_1.length)) := Lib.hid (by rw [cell_of_row _ _ _ _ _ _ (heap_alloc_new w4 _)]; rfl)
  have qP00 := P00_5.out
  have qP01 := P01_5.out
  have qP10 := P10_5.out
  have qP11 := P11_5.out
  have qKZ0 := KZ0_5.out
  have qKZ1 := KZ1_5.out
  have qR0 := R0_5.out
  have qR1 := R1_5.out
  go_wp2_with fail
  clear qP00 qP01 qP10 qP11 qKZ0 qKZ1 qR0 qR1
  generalize (w4.alloc (.cells #[.slice BA0 xs0_0.length xs0_0.length, .slice BA1 xs0_1.length xs0_1.length] 55)) = w5 at *
  refine (toBox_oi (H1_0.out.at (Nat.le_refl _) HB5.out) (H1_1.out.at (Nat.le_refl _) HB5.out) (Nat.le_refl _) SM1.out).mono ?_
  rintro e w6 ⟨VA0, VA1, rfl, oa, ob, hap, g⟩
  have G6 := Lib.hid g; have SZ6 : Hid (w5.heap.size ≤ w6.heap.size) := Lib.hid g.size; clear g
  have P00_6 : Hid (w6.cell? ⟨w.heap.size, 0, none⟩ = some (.slice A0_0 xs0_0.length c0_0)) := Lib.hid (oldcell G6.out P00_5.out)
  have P01_6 : Hid (w6.cell? ⟨w.heap.size, 1, none⟩ = some (.slice A0_1 xs0_1.length c0_1)) := Lib.hid (oldcell G6.out P01_5.out)
  have P10_6 : Hid (w6.cell? ⟨w.heap.size + 1, 0, none⟩ = some (.slice A1_0 xs1_0.length c1_0)) := Lib.hid (oldcell G6.out P10_5.out)
  have P11_6 : Hid (w6.cell? ⟨w.heap.size + 1, 1, none⟩ = some (.slice A1_1 xs1_1.length c1_1)) := Lib.hid (oldcell G6.out P11_5.out)
  have OZ0_6 : Hid (OI w6 w2.heap.size (.slice ZA0 D.length Zc0) D) := Lib.hid (OZ0_5.out.bel G6.out)
  have KZ0_6 : Hid (w6.cell? ⟨bZ, 0, none⟩ = some (.slice ZA0 D.length Zc0)) := Lib.hid (oldcell G6.out KZ0_5.out)
  have OZ1_6 : Hid (OI w6 w2.heap.size (.slice ZA1 M.length Zc1) M) := Lib.hid (OZ1_5.out.bel G6.out)
  have KZ1_6 : Hid (w6.cell? ⟨bZ, 1, none⟩ = some (.slice ZA1 M.length Zc1)) := Lib.hid (oldcell G6.out KZ1_5.out)
  have OB0_6 : Hid (OI w6 w3.heap.size (.slice BA0 xs0_0.length xs0_0.length) xs0_0) := Lib.hid (OB0_5.out.bel G6.out)
  have OB1_6 : Hid (OI w6 w3.heap.size (.slice BA1 xs0_1.length xs0_1.length) xs0_1) := Lib.hid (OB1_5.out.bel G6.out)
  have R0_6 : Hid (w6.cell? ⟨w4.heap.size, 0, none⟩ = some (.slice BA0 xs0_0.length xs0_0.length)) := Lib.hid (oldcell G6.out R0_5.out)
  have R1_6 : Hid (w6.cell? ⟨w4.heap.size, 1, none⟩ = some (.slice BA1 xs0_1.length xs0_1.length)) := Lib.hid (oldcell G6.out R1_5.out)
  have HB6 : Hid (Below w.heap.size w w6) := Lib.hid (HB5.out.trans (G6.out.mono HB5.out.size))
  have OV0_6 : Hid (OI w6 w5.heap.size (.slice VA0 xs1_0.length xs1_0.length) xs1_0) := Lib.hid oa; clear oa
  have OV1_6 : Hid (OI w6 w5.heap.size (.slice VA1 xs1_1.length xs1_1.length) xs1_1) := Lib.hid ob; clear ob
  have XV := Lib.hid hap; clear hap
  have IV0 := Lib.hid OV0_6.out.wi; have IV1 := Lib.hid OV1_6.out.wi
  have G7 : Hid (Below w6.heap.size w6 (w6.alloc (.cells #[.slice VA0 xs1_0.length xs1_0.length, .slice VA1 xs1_1.length xs1_1.length] 55))) := Lib.hid ((Below.refl _ _).alloc (Nat.le_refl _) _)
  have SZ7 : Hid (w6.heap.size + 1 ≤ (w6.alloc (.cells #[.slice VA0 xs1_0.length xs1_0.length, .slice VA1 xs1_1.length xs1_1.length] 55)).heap.size) := Lib.hid (by simp)
  have P00_7 : Hid ((w6.alloc (.cells #[.slice VA0 xs1_0.length xs1_0.length, .slice VA1 xs1_1.length xs1_1.length] 55)).cell? ⟨w.heap.size, 0, none⟩ = some (.slice A0_0 xs0_0.length c0_0)) := Lib.hid (oldcell G7.out P00_6.out)
  have P01_7 : Hid ((w6.alloc (.cells #[.slice VA0 xs1_0.length xs1_0.length, .slice VA1 xs1_1.length xs1_1.length] 55)).cell? ⟨w.heap.size, 1, none⟩ = some (.slice A0_1 xs0_1.length c0_1)) := Lib.hid (oldcell G7.out P01_6.out)
  have P10_7 : Hid ((w6.alloc (.cells #[.slice VA0 xs1_0.length xs1_0.length, .slice VA1 xs1_1.length xs1_1.length] 55)).cell? ⟨w.heap.size + 1, 0, none⟩ = some (.slice A1_0 xs1_0.length c1_0)) := Lib.hid (oldcell G7.out P10_6.out)
  have P11_7 : Hid ((w6.alloc (.cells #[.slice VA0 xs1_0.length xs1_0.length, .slice VA1 xs1_1.length xs1_1.length] 55)).cell? ⟨w.heap.size + 1, 1, none⟩ = some (.slice A1_1 xs1_1.length c1_1)) := Lib.hid (oldcell G7.out P11_6.out)
  have OZ0_7 : Hid (OI (w6.alloc (.cells #[.slice VA0 xs1_0.length xs1_0.length, .slice VA1 xs1_1.length xs1_1.length] 55)) w2.heap.size (.slice ZA0 D.length Zc0) D) := Lib.hid (OZ0_6.out.bel G7.out)
  have KZ0_7 : Hid ((w6.alloc (.cells #[.slice VA0 xs1_0.length xs1_0.length, .slice VA1 xs1_1.length xs1_1.length] 55)).cell? ⟨bZ, 0, none⟩ = some (.slice ZA0 D.length Zc0)) := Lib.hid (oldcell G7.out KZ0_6.out)
  have OZ1_7 : Hid (OI (w6.alloc (.cells #[.slice VA0 xs1_0.length xs1_0.length, .slice VA1 xs1_1.length xs1_1.length] 55)) w2.heap.size (.slice ZA1 M.length Zc1) M) := Lib.hid (OZ1_6.out.bel G7.out)
  have KZ1_7 : Hid ((w6.alloc (.cells #[.slice VA0 xs1_0.length xs1_0.length, .slice VA1 xs1_1.length xs1_1.length] 55)).cell? ⟨bZ, 1, none⟩ = some (.slice ZA1 M.length Zc1)) := Lib.hid (oldcell G7.out KZ1_6.out)
  have OB0_7 : Hid (OI (w6.alloc (.cells #[.slice VA0 xs1_0.length xs1_0.length, .slice VA1 xs1_1.length xs1_1.length] 55)) w3.heap.size (.slice BA0 xs0_0.length xs0_0.length) xs0_0) := Lib.hid (OB0_6.out.bel G7.out)
  have OB1_7 : Hid (OI (w6.alloc (.cells #[.slice VA0 xs1_0.length xs1_0.length, .slice VA1 xs1_1.length xs1_1.length] 55)) w3.heap.size (.slice BA1 xs0_1.length xs0_1.length) xs0_1) := Lib.hid (OB1_6.out.bel G7.out)
  have R0_7 : Hid ((w6.alloc (.cells #[.slice VA0 xs1_0.length xs1_0.length, .slice VA1 xs1_1.length xs1_1.length] 55)).cell? ⟨w4.heap.size, 0, none⟩ = some (.slice BA0 xs0_0.length xs0_0.length)) := Lib.hid (oldcell G7.out R0_6.out)
  have R1_7 : Hid ((w6.alloc (.cells #[.slice VA0 xs1_0.length xs1_0.length, .slice VA1 xs1_1.length xs1_1.length] 55)).cell? ⟨w4.heap.size, 1, none⟩ = some (.slice BA1 xs0_1.length xs0_1.length)) := Lib.hid (oldcell G7.out R1_6.out)
  have OV0_7 : Hid (OI (w6.alloc (.cells #[.slice VA0 xs1_0.length xs1_0.length, .slice VA1 xs1_1.length xs1_1.length] 55)) w5.heap.size (.slice VA0 xs1_0.length xs1_0.length) xs1_0) := Lib.hid (OV0_6.out.bel G7.out)
  have OV1_7 : Hid (OI (w6.alloc (.cells #[.slice VA0 xs1_0.length xs1_0.length, .slice VA1 xs1_1.length xs1_1.length] 55)) w5.heap.size (.slice VA1 xs1_1.length xs1_1.length) xs1_1) := Lib.hid (OV1_6.out.bel G7.out)
  have HB7 : Hid (Below w.heap.size w (w6.alloc (.cells #[.slice VA0 xs1_0.length xs1_0.length, .slice VA1 xs1_1.length xs1_1.length] 55))) := Lib.hid (HB6.out.trans (G7.out.mono HB6.out.size))
  have S0_7 : Hid ((w6.alloc (.cells #[.slice VA0 xs1_0.length xs1_0.length, .slice VA1 xs1_1.length xs1_1.length] 55)).cell? ⟨w6.heap.size, 0, none⟩ = some (.slice VA0 xs1_0.length xs1_0.length)) := Lib.hid (by rw [cell_of_row _ _ _ _ _ _ (heap_alloc_new w6 _)]; rfl)
  have S1_7 : Hid ((w6.alloc (.cells #[.slice VA0 xs1_0.length xs1_0.length, .slice VA1 xs1_1.length xs1_1.length] 55)).cell? ⟨w6.heap.size, 1, none⟩ = some (.slice VA1 xs1_1.length xs1_1.length)) := Lib.hid (by rw [cell_of_row _ _ _ _ _ _ (heap_alloc_new w6 _)]; rfl)
  have qP00 := P00_7.out
  have qP01 := P01_7.out
  have qP10 := P10_7.out
  have qP11 := P11_7.out
  have qKZ0 := KZ0_7.out
  have qKZ1 := KZ1_7.out
  have qR0 := R0_7.out
  have qR1 := R1_7.out
  have qS0 := S0_7.out
  have qS1 := S1_7.out
  go_wp2_with fail
  clear qP00 qP01 qP10 qP11 qKZ0 qKZ1 qR0 qR1 qS0 qS1
  generalize (w6.alloc (.cells #[.slice VA0 xs1_0.length xs1_0.length, .slice VA1 xs1_1.length xs1_1.length] 55)) = w7 at *
  refine (pCut_is HD.out HM.out HE.out (OB0_7.out.ri H0_0.out.inI) (OB1_7.out.ri H0_1.out.inI) (OV0_7.out.ri H1_0.out.inI) (OV1_7.out.ri H1_1.out.inI) (Nat.le_refl _)).mono ?_
  rintro e w8 ⟨YA0, YA1, Yc0, Yc1, rfl, oa, ob, hap, g⟩
  have G8 := Lib.hid g; have SZ8 : Hid (w7.heap.size ≤ w8.heap.size) := Lib.hid g.size; clear g
  have P00_8 : Hid (w8.cell? ⟨w.heap.size, 0, none⟩ = some (.slice A0_0 xs0_0.length c0_0)) := Lib.hid (oldcell G8.out P00_7.out)
  have P01_8 : Hid (w8.cell? ⟨w.heap.size, 1, none⟩ = some (.slice A0_1 xs0_1.length c0_1)) := Lib.hid (oldcell G8.out P01_7.out)
  have P10_8 : Hid (w8.cell? ⟨w.heap.size + 1, 0, none⟩ = some (.slice A1_0 xs1_0.length c1_0)) := Lib.hid (oldcell G8.out P10_7.out)
  have P11_8 : Hid (w8.cell? ⟨w.heap.size + 1, 1, none⟩ = some (.slice A1_1 xs1_1.length c1_1)) := Lib.hid (oldcell G8.out P11_7.out)
  have OZ0_8 : Hid (OI w8 w2.heap.size (.slice ZA0 D.length Zc0) D) := Lib.hid (OZ0_7.out.bel G8.out)
  have KZ0_8 : Hid (w8.cell? ⟨bZ, 0, none⟩ = some (.slice ZA0 D.length Zc0)) := Lib.hid (oldcell G8.out KZ0_7.out)
  have OZ1_8 : Hid (OI w8 w2.heap.size (.slice ZA1 M.length Zc1) M) := Lib.hid (OZ1_7.out.bel G8.out)
  have KZ1_8 : Hid (w8.cell? ⟨bZ, 1, none⟩ = some (.slice ZA1 M.length Zc1)) := Lib.hid (oldcell G8.out KZ1_7.out)
  have OB0_8 : Hid (OI w8 w3.heap.size (.slice BA0 xs0_0.length xs0_0.length) xs0_0) := Lib.hid (OB0_7.out.bel G8.out)
  have OB1_8 : Hid (OI w8 w3.heap.size (.slice BA1 xs0_1.length xs0_1.length) xs0_1) := Lib.hid (OB1_7.out.bel G8.out)
  have R0_8 : Hid (w8.cell? ⟨w4.heap.size, 0, none⟩ = some (.slice BA0 xs0_0.length xs0_0.length)) := Lib.hid (oldcell G8.out R0_7.out)
  have R1_8 : Hid (w8.cell? ⟨w4.heap.size, 1, none⟩ = some (.slice BA1 xs0_1.length xs0_1.length)) := Lib.hid (oldcell G8.out R1_7.out)
  have OV0_8 : Hid (OI w8 w5.heap.size (.slice VA0 xs1_0.length xs1_0.length) xs1_0) := Lib.hid (OV0_7.out.bel G8.out)
  have OV1_8 : Hid (OI w8 w5.heap.size (.slice VA1 xs1_1.length xs1_1.length) xs1_1) := Lib.hid (OV1_7.out.bel G8.out)
  have S0_8 : Hid (w8.cell? ⟨w6.heap.size, 0, none⟩ = some (.slice VA0 xs1_0.length xs1_0.length)) := Lib.hid (oldcell G8.out S0_7.out)
  have S1_8 : Hid (w8.cell? ⟨w6.heap.size, 1, none⟩ = some (.slice VA1 xs1_1.length xs1_1.length)) := Lib.hid (oldcell G8.out S1_7.out)
  have HB8 : Hid (Below w.heap.size w w8) := Lib.hid (HB7.out.trans (G8.out.mono HB7.out.size))
  have OY0_8 : Hid (OI w8 w7.heap.size (.slice YA0 D.length Yc0) D) := Lib.hid oa; clear oa
  have OY1_8 : Hid (OI w8 w7.heap.size (.slice YA1 M.length Yc1) M) := Lib.hid ob; clear ob
  have XY := Lib.hid hap; clear hap
  have IY0 := Lib.hid OY0_8.out.wi; have IY1 := Lib.hid OY1_8.out.wi
  have G9 : Hid (Below w8.heap.size w8 (w8.alloc (.cells #[.slice YA0 D.length Yc0, .slice YA1 M.length Yc1] 55))) := Lib.hid ((Below.refl _ _).alloc (Nat.le_refl _) _)
  have SZ9 : Hid (w8.heap.size + 1 ≤ (w8.alloc (.cells #[.slice YA0 D.length Yc0, .slice YA1 M.length Yc1] 55)).heap.size) := Lib.hid (by simp)
  have P00_9 : Hid ((w8.alloc (.cells #[.slice YA0 D.length Yc0, .slice YA1 M.length Yc1] 55)).cell? ⟨w.heap.size, 0, none⟩ = some (.slice A0_0 xs0_0.length c0_0)) := Lib.hid (oldcell G9.out P00_8.out)
  have P01_9 : Hid ((w8.alloc (.cells #[.slice YA0 D.length Yc0, .slice YA1 M.length Yc1] 55)).cell? ⟨w.heap.size, 1, none⟩ = some (.slice A0_1 xs0_1.length c0_1)) := Lib.hid (oldcell G9.out P01_8.out)
  have P10_9 : Hid ((w8.alloc (.cells #[.slice YA0 D.length Yc0, .slice YA1 M.length Yc1] 55)).cell? ⟨w.heap.size + 1, 0, none⟩ = some (.slice A1_0 xs1_0.length c1_0)) := Lib.hid (oldcell G9.out P10_8.out)
  have P11_9 : Hid ((w8.alloc (.cells #[.slice YA0 D.length Yc0, .slice YA1 M.length Yc1] 55)).cell? ⟨w.heap.size + 1, 1, none⟩ = some (.slice A1_1 xs1_1.length c1_1)) := Lib.hid (oldcell G9.out P11_8.out)
  have OZ0_9 : Hid (OI (w8.alloc (.cells #[.slice YA0 D.length Yc0, .slice YA1 M.length Yc1] 55)) w2.heap.size (.slice ZA0 D.length Zc0) D) := Lib.hid (OZ0_8.out.bel G9.out)
  have KZ0_9 : Hid ((w8.alloc (.cells #[.slice YA0 D.length Yc0, .slice YA1 M.length Yc1] 55)).cell? ⟨bZ, 0, none⟩ = some (.slice ZA0 D.length Zc0)) := Lib.hid (oldcell G9.out KZ0_8.out)
  have OZ1_9 : Hid (OI (w8.alloc (.cells #[.slice YA0 D.length Yc0, .slice YA1 M.length Yc1] 55)) w2.heap.size (.slice ZA1 M.length Zc1) M) := Lib.hid (OZ1_8.out.bel G9.out)
  have KZ1_9 : Hid ((w8.alloc (.cells #[.slice YA0 D.length Yc0, .slice YA1 M.length Yc1] 55)).cell? ⟨bZ, 1, none⟩ = some (.slice ZA1 M.length Zc1)) := Lib.hid (oldcell G9.out KZ1_8.out)
  have OB0_9 : Hid (OI (w8.alloc (.cells #[.slice YA0 D.length Yc0, .slice YA1 M.length Yc1] 55)) w3.heap.size (.slice BA0 xs0_0.length xs0_0.length) xs0_0) := Lib.hid (OB0_8.out.bel G9.out)
  have OB1_9 : Hid (OI (w8.alloc (.cells #[.slice YA0 D.length Yc0, .slice YA1 M.length Yc1] 55)) w3.heap.size (.slice BA1 xs0_1.length xs0_1.length) xs0_1) := Lib.hid (OB1_8.out.bel G9.out)
  have R0_9 : Hid ((w8.alloc (.cells #[.slice YA0 D.length Yc0, .slice YA1 M.length Yc1] 55)).cell? ⟨w4.heap.size, 0, none⟩ = some (.slice BA0 xs0_0.length xs0_0.length)) := Lib.hid (oldcell G9.out R0_8.out)
  have R1_9 : Hid ((w8.alloc (.cells #[.slice YA0 D.length Yc0, .slice YA1 M.length Yc1] 55)).cell? ⟨w4.heap.size, 1, none⟩ = some (.slice BA1 xs0_1.length xs0_1.length)) := Lib.hid (oldcell G9.out R1_8.out)
  have OV0_9 : Hid (OI (w8.alloc (.cells #[.slice YA0 D.length Yc0, .slice YA1 M.length Yc1] 55)) w5.heap.size (.slice VA0 xs1_0.length xs1_0.length) xs1_0) := Lib.hid (OV0_8.out.bel G9.out)
  have OV1_9 : Hid (OI (w8.alloc (.cells #[.slice YA0 D.length Yc0, .slice YA1 M.length Yc1] 55)) w5.heap.size (.slice VA1 xs1_1.length xs1_1.length) xs1_1) := Lib.hid (OV1_8.out.bel G9.out)
  have S0_9 : Hid ((w8.alloc (.cells #[.slice YA0 D.length Yc0, .slice YA1 M.length Yc1] 55)).cell? ⟨w6.heap.size, 0, none⟩ = some (.slice VA0 xs1_0.length xs1_0.length)) := Lib.hid (oldcell G9.out S0_8.out)
  have S1_9 : Hid ((w8.alloc (.cells #[.slice YA0 D.length Yc0, .slice YA1 M.length Yc1] 55)).cell? ⟨w6.heap.size, 1, none⟩ = some (.slice VA1 xs1_1.length xs1_1.length)) := Lib.hid (oldcell G9.out S1_8.out)
  have OY0_9 : Hid (OI (w8.alloc (.cells #[.slice YA0 D.length Yc0, .slice YA1 M.length Yc1] 55)) w7.heap.size (.slice YA0 D.length Yc0) D) := Lib.hid (OY0_8.out.bel G9.out)
  have OY1_9 : Hid (OI (w8.alloc (.cells #[.slice YA0 D.length Yc0, .slice YA1 M.length Yc1] 55)) w7.heap.size (.slice YA1 M.length Yc1) M) := Lib.hid (OY1_8.out.bel G9.out)
  have HB9 : Hid (Below w.heap.size w (w8.alloc (.cells #[.slice YA0 D.length Yc0, .slice YA1 M.length Yc1] 55))) := Lib.hid (HB8.out.trans (G9.out.mono HB8.out.size))
  have J0_9 : Hid ((w8.alloc (.cells #[.slice YA0 D.length Yc0, .slice YA1 M.length Yc1] 55)).cell? ⟨w8.heap.size, 0, none⟩ = some (.slice YA0 D.length Yc0)) := Lib.hid (by rw [cell_of_row _ _ _ _ _ _ (heap_alloc_new w8 _)]; rfl)
  have J1_9 : Hid ((w8.alloc (.cells #[.slice YA0 D.length Yc0, .slice YA1 M.length Yc1] 55)).cell? ⟨w8.heap.size, 1, none⟩ = some (.slice YA1 M.length Yc1)) := Lib.hid (by rw [cell_of_row _ _ _ _ _ _ (heap_alloc_new w8 _)]; rfl)
  have qP00 := P00_9.out
  have qP01 := P01_9.out
  have qP10 := P10_9.out
  have qP11 := P11_9.out
  have qKZ0 := KZ0_9.out
  have qKZ1 := KZ1_9.out
  have qR0 := R0_9.out
  have qR1 := R1_9.out
  have qS0 := S0_9.out
  have qS1 := S1_9.out
  have qJ0 := J0_9.out
  have qJ1 := J1_9.out
  go_wp2_with fail
  clear qP00 qP01 qP10 qP11 qKZ0 qKZ1 qR0 qR1 qS0 qS1 qJ0 qJ1
  generalize (w8.alloc (.cells #[.slice YA0 D.length Yc0, .slice YA1 M.length Yc1] 55)) = w9 at *
  refine (eqBox_any (OY0_9.out.ri ID.out) (OY1_9.out.ri IM.out) (OZ0_9.out.ri ID.out) (OZ1_9.out.ri IM.out) (Nat.le_refl _)).mono ?_
  rintro e w10 ⟨rfl, g⟩
  have G10 := Lib.hid g; have SZ10 : Hid (w9.heap.size ≤ w10.heap.size) := Lib.hid g.size; clear g
  have P00_10 : Hid (w10.cell? ⟨w.heap.size, 0, none⟩ = some (.slice A0_0 xs0_0.length c0_0)) := Lib.hid (oldcell G10.out P00_9.out)
  have P01_10 : Hid (w10.cell? ⟨w.heap.size, 1, none⟩ = some (.slice A0_1 xs0_1.length c0_1)) := Lib.hid (oldcell G10.out P01_9.out)
  have P10_10 : Hid (w10.cell? ⟨w.heap.size + 1, 0, none⟩ = some (.slice A1_0 xs1_0.length c1_0)) := Lib.hid (oldcell G10.out P10_9.out)
  have P11_10 : Hid (w10.cell? ⟨w.heap.size + 1, 1, none⟩ = some (.slice A1_1 xs1_1.length c1_1)) := Lib.hid (oldcell G10.out P11_9.out)
  have OZ0_10 : Hid (OI w10 w2.heap.size (.slice ZA0 D.length Zc0) D) := Lib.hid (OZ0_9.out.bel G10.out)
  have KZ0_10 : Hid (w10.cell? ⟨bZ, 0, none⟩ = some (.slice ZA0 D.length Zc0)) := Lib.hid (oldcell G10.out KZ0_9.out)
  have OZ1_10 : Hid (OI w10 w2.heap.size (.slice ZA1 M.length Zc1) M) := Lib.hid (OZ1_9.out.bel G10.out)
  have KZ1_10 : Hid (w10.cell? ⟨bZ, 1, none⟩ = some (.slice ZA1 M.length Zc1)) := Lib.hid (oldcell G10.out KZ1_9.out)
  have OB0_10 : Hid (OI w10 w3.heap.size (.slice BA0 xs0_0.length xs0_0.length) xs0_0) := Lib.hid (OB0_9.out.bel G10.out)
  have OB1_10 : Hid (OI w10 w3.heap.size (.slice BA1 xs0_1.length xs0_1.length) xs0_1) := Lib.hid (OB1_9.out.bel G10.out)
  have R0_10 : Hid (w10.cell? ⟨w4.heap.size, 0, none⟩ = some (.slice BA0 xs0_0.length xs0_0.length)) := Lib.hid (oldcell G10.out R0_9.out)
  have R1_10 : Hid (w10.cell? ⟨w4.heap.size, 1, none⟩ = some (.slice BA1 xs0_1.length xs0_1.length)) := Lib.hid (oldcell G10.out R1_9.out)
  have OV0_10 : Hid (OI w10 w5.heap.size (.slice VA0 xs1_0.length xs1_0.length) xs1_0) := Lib.hid (OV0_9.out.bel G10.out)
  have OV1_10 : Hid (OI w10 w5.heap.size (.slice VA1 xs1_1.length xs1_1.length) xs1_1) := Lib.hid (OV1_9.out.bel G10.out)
  have S0_10 : Hid (w10.cell? ⟨w6.heap.size, 0, none⟩ = some (.slice VA0 xs1_0.length xs1_0.length)) := Lib.hid (oldcell G10.out S0_9.out)
  have S1_10 : Hid (w10.cell? ⟨w6.heap.size, 1, none⟩ = some (.slice VA1 xs1_1.length xs1_1.length)) := Lib.hid (oldcell G10.out S1_9.out)
  have OY0_10 : Hid (OI w10 w7.heap.size (.slice YA0 D.length Yc0) D) := Lib.hid (OY0_9.out.bel G10.out)
  have OY1_10 : Hid (OI w10 w7.heap.size (.slice YA1 M.length Yc1) M) := Lib.hid (OY1_9.out.bel G10.out)
  have J0_10 : Hid (w10.cell? ⟨w8.heap.size, 0, none⟩ = some (.slice YA0 D.length Yc0)) := Lib.hid (oldcell G10.out J0_9.out)
  have J1_10 : Hid (w10.cell? ⟨w8.heap.size, 1, none⟩ = some (.slice YA1 M.length Yc1)) := Lib.hid (oldcell G10.out J1_9.out)
  have HB10 : Hid (Below w.heap.size w w10) := Lib.hid (HB9.out.trans (G10.out.mono HB9.out.size))
  have HSp : Hid (∀ W, Below w10.heap.size w10 W → W.cell? ⟨w.heap.size, 0, none⟩ = some (.slice A0_0 xs0_0.length c0_0) ∧ W.cell? ⟨w.heap.size, 1, none⟩ = some (.slice A0_1 xs0_1.length c0_1) ∧ W.cell? ⟨w.heap.size + 1, 0, none⟩ = some (.slice A1_0 xs1_0.length c1_0) ∧ W.cell? ⟨w.heap.size + 1, 1, none⟩ = some (.slice A1_1 xs1_1.length c1_1) ∧ W.cell? ⟨bZ, 0, none⟩ = some (.slice ZA0 D.length Zc0) ∧ W.cell? ⟨bZ, 1, none⟩ = some (.slice ZA1 M.length Zc1) ∧ W.cell? ⟨w4.heap.size, 0, none⟩ = some (.slice BA0 xs0_0.length xs0_0.length) ∧ W.cell? ⟨w4.heap.size, 1, none⟩ = some (.slice BA1 xs0_1.length xs0_1.length) ∧ W.cell? ⟨w6.heap.size, 0, none⟩ = some (.slice VA0 xs1_0.length xs1_0.length) ∧ W.cell? ⟨w6.heap.size, 1, none⟩ = some (.slice VA1 xs1_1.length xs1_1.length) ∧ W.cell? ⟨w8.heap.size, 0, none⟩ = some (.slice YA0 D.length Yc0) ∧ W.cell? ⟨w8.heap.size, 1, none⟩ = some (.slice YA1 M.length Yc1)) := Lib.hid (fun W hW => ⟨oldcell hW P00_10.out, oldcell hW P01_10.out, oldcell hW P10_10.out, oldcell hW P11_10.out, oldcell hW KZ0_10.out, oldcell hW KZ1_10.out, oldcell hW R0_10.out, oldcell hW R1_10.out, oldcell hW S0_10.out, oldcell hW S1_10.out, oldcell hW J0_10.out, oldcell hW J1_10.out⟩)
  have HDrp : Hid (Below w10.heap.size w10 w10.drew) := Lib.hid (Below.refl _ _).drew
  have qP00 := P00_10.out
  have qP01 := P01_10.out
  have qP10 := P10_10.out
  have qP11 := P11_10.out
  have qKZ0 := KZ0_10.out
  have qKZ1 := KZ1_10.out
  have qR0 := R0_10.out
  have qR1 := R1_10.out
  have qS0 := S0_10.out
  have qS1 := S1_10.out
  have qJ0 := J0_10.out
  have qJ1 := J1_10.out
  go_wp2
  clear qP00 qP01 qP10 qP11 qKZ0 qKZ1 qR0 qR1 qS0 qS1 qJ0 qJ1
  go_region_held3 (fun W => W.cell? ⟨w.heap.size, 0, none⟩ = some (.slice A0_0 xs0_0.length c0_0) ∧ W.cell? ⟨w.heap.size, 1, none⟩ = some (.slice A0_1 xs0_1.length c0_1) ∧ W.cell? ⟨w.heap.size + 1, 0, none⟩ = some (.slice A1_0 xs1_0.length c1_0) ∧ W.cell? ⟨w.heap.size + 1, 1, none⟩ = some (.slice A1_1 xs1_1.length c1_1) ∧ W.cell? ⟨bZ, 0, none⟩ = some (.slice ZA0 D.length Zc0) ∧ W.cell? ⟨bZ, 1, none⟩ = some (.slice ZA1 M.length Zc1) ∧ W.cell? ⟨w4.heap.size, 0, none⟩ = some (.slice BA0 xs0_0.length xs0_0.length) ∧ W.cell? ⟨w4.heap.size, 1, none⟩ = some (.slice BA1 xs0_1.length xs0_1.length) ∧ W.cell? ⟨w6.heap.size, 0, none⟩ = some (.slice VA0 xs1_0.length xs1_0.length) ∧ W.cell? ⟨w6.heap.size, 1, none⟩ = some (.slice VA1 xs1_1.length xs1_1.length) ∧ W.cell? ⟨w8.heap.size, 0, none⟩ = some (.slice YA0 D.length Yc0) ∧ W.cell? ⟨w8.heap.size, 1, none⟩ = some (.slice YA1 M.length Yc1)) (exact HSp.out _ (by first | exact kb2 | exact kb1 | exact HDrp.out))
    ((first | (go_at_call 39; go_fit (toBox_oi (H0_0.out.at (Nat.le_refl _) (HB10.out.trans (HDrp.out.mono HB10.out.size))) (H0_1.out.at (Nat.le_refl _) (HB10.out.trans (HDrp.out.mono HB10.out.size))) (Nat.le_refl _) SM0.out); rintro e u1 ⟨KA0, KA1, rfl, oa, ob, -, ga⟩; have OK0 := Lib.hid oa; have OK1 := Lib.hid ob; clear oa ob; have kb1 : Below w10.heap.size w10 u1 := HDrp.out.trans ga) | (go_at_call 41; go_fit (eqBox_any ((OB0_10.out.bel kb1).ri H0_0.out.inI) ((OB1_10.out.bel kb1).ri H0_1.out.inI) (OK0.out.ri H0_0.out.inI) (OK1.out.ri H0_1.out.inI) (Nat.le_refl _)); rintro e w11 ⟨rfl, gb⟩; have kb2 : Below w10.heap.size w10 w11 := kb1.trans (gb.mono kb1.size))))
  try simp only [Exit.then]
  have G11 := Lib.hid kb2; have SZ11 : Hid (w10.heap.size ≤ w11.heap.size) := Lib.hid kb2.size; clear kb1 kb2 ga gb OK0 OK1
  have P00_11 : Hid (w11.cell? ⟨w.heap.size, 0, none⟩ = some (.slice A0_0 xs0_0.length c0_0)) := Lib.hid (oldcell G11.out P00_10.out)
  have P01_11 : Hid (w11.cell? ⟨w.heap.size, 1, none⟩ = some (.slice A0_1 xs0_1.length c0_1)) := Lib.hid (oldcell G11.out P01_10.out)
  have P10_11 : Hid (w11.cell? ⟨w.heap.size + 1, 0, none⟩ = some (.slice A1_0 xs1_0.length c1_0)) := Lib.hid (oldcell G11.out P10_10.out)
  have P11_11 : Hid (w11.cell? ⟨w.heap.size + 1, 1, none⟩ = some (.slice A1_1 xs1_1.length c1_1)) := Lib.hid (oldcell G11.out P11_10.out)
  have OZ0_11 : Hid (OI w11 w2.heap.size (.slice ZA0 D.length Zc0) D) := Lib.hid (OZ0_10.out.bel G11.out)
  have KZ0_11 : Hid (w11.cell? ⟨bZ, 0, none⟩ = some (.slice ZA0 D.length Zc0)) := Lib.hid (oldcell G11.out KZ0_10.out)
  have OZ1_11 : Hid (OI w11 w2.heap.size (.slice ZA1 M.length Zc1) M) := Lib.hid (OZ1_10.out.bel G11.out)
  have KZ1_11 : Hid (w11.cell? ⟨bZ, 1, none⟩ = some (.slice ZA1 M.length Zc1)) := Lib.hid (oldcell G11.out KZ1_10.out)
  have OB0_11 : Hid (OI w11 w3.heap.size (.slice BA0 xs0_0.length xs0_0.length) xs0_0) := Lib.hid (OB0_10.out.bel G11.out)
  have OB1_11 : Hid (OI w11 w3.heap.size (.slice BA1 xs0_1.length xs0_1.length) xs0_1) := Lib.hid (OB1_10.out.bel G11.out)
  have R0_11 : Hid (w11.cell? ⟨w4.heap.size, 0, none⟩ = some (.slice BA0 xs0_0.length xs0_0.length)) := Lib.hid (oldcell G11.out R0_10.out)
  have R1_11 : Hid (w11.cell? ⟨w4.heap.size, 1, none⟩ = some (.slice BA1 xs0_1.length xs0_1.length)) := Lib.hid (oldcell G11.out R1_10.out)
  have OV0_11 : Hid (OI w11 w5.heap.size (.slice VA0 xs1_0.length xs1_0.length) xs1_0) := Lib.hid (OV0_10.out.bel G11.out)
  have OV1_11 : Hid (OI w11 w5.heap.size (.slice VA1 xs1_1.length xs1_1.length) xs1_1) := Lib.hid (OV1_10.out.bel G11.out)
  have S0_11 : Hid (w11.cell? ⟨w6.heap.size, 0, none⟩ = some (.slice VA0 xs1_0.length xs1_0.length)) := Lib.hid (oldcell G11.out S0_10.out)
  have S1_11 : Hid (w11.cell? ⟨w6.heap.size, 1, none⟩ = some (.slice VA1 xs1_1.length xs1_1.length)) := Lib.hid (oldcell G11.out S1_10.out)
  have OY0_11 : Hid (OI w11 w7.heap.size (.slice YA0 D.length Yc0) D) := Lib.hid (OY0_10.out.bel G11.out)
  have OY1_11 : Hid (OI w11 w7.heap.size (.slice YA1 M.length Yc1) M) := Lib.hid (OY1_10.out.bel G11.out)
  have J0_11 : Hid (w11.cell? ⟨w8.heap.size, 0, none⟩ = some (.slice YA0 D.length Yc0)) := Lib.hid (oldcell G11.out J0_10.out)
  have J1_11 : Hid (w11.cell? ⟨w8.heap.size, 1, none⟩ = some (.slice YA1 M.length Yc1)) := Lib.hid (oldcell G11.out J1_10.out)
  have HB11 : Hid (Below w.heap.size w w11) := Lib.hid (HB10.out.trans (G11.out.mono HB10.out.size))
  have HSq : Hid (∀ W, Below w11.heap.size w11 W → W.cell? ⟨w.heap.size, 0, none⟩ = some (.slice A0_0 xs0_0.length c0_0) ∧ W.cell? ⟨w.heap.size, 1, none⟩ = some (.slice A0_1 xs0_1.length c0_1) ∧ W.cell? ⟨w.heap.size + 1, 0, none⟩ = some (.slice A1_0 xs1_0.length c1_0) ∧ W.cell? ⟨w.heap.size + 1, 1, none⟩ = some (.slice A1_1 xs1_1.length c1_1) ∧ W.cell? ⟨bZ, 0, none⟩ = some (.slice ZA0 D.length Zc0) ∧ W.cell? ⟨bZ, 1, none⟩ = some (.slice ZA1 M.length Zc1) ∧ W.cell? ⟨w4.heap.size, 0, none⟩ = some (.slice BA0 xs0_0.length xs0_0.length) ∧ W.cell? ⟨w4.heap.size, 1, none⟩ = some (.slice BA1 xs0_1.length xs0_1.length) ∧ W.cell? ⟨w6.heap.size, 0, none⟩ = some (.slice VA0 xs1_0.length xs1_0.length) ∧ W.cell? ⟨w6.heap.size, 1, none⟩ = some (.slice VA1 xs1_1.length xs1_1.length) ∧ W.cell? ⟨w8.heap.size, 0, none⟩ = some (.slice YA0 D.length Yc0) ∧ W.cell? ⟨w8.heap.size, 1, none⟩ = some (.slice YA1 M.length Yc1)) := Lib.hid (fun W hW => ⟨oldcell hW P00_11.out, oldcell hW P01_11.out, oldcell hW P10_11.out, oldcell hW P11_11.out, oldcell hW KZ0_11.out, oldcell hW KZ1_11.out, oldcell hW R0_11.out, oldcell hW R1_11.out, oldcell hW S0_11.out, oldcell hW S1_11.out, oldcell hW J0_11.out, oldcell hW J1_11.out⟩)
  have HDrq : Hid (Below w11.heap.size w11 w11.drew) := Lib.hid (Below.refl _ _).drew
  have qP00 := P00_11.out
  have qP01 := P01_11.out
  have qP10 := P10_11.out
  have qP11 := P11_11.out
  have qKZ0 := KZ0_11.out
  have qKZ1 := KZ1_11.out
  have qR0 := R0_11.out
  have qR1 := R1_11.out
  have qS0 := S0_11.out
  have qS1 := S1_11.out
  have qJ0 := J0_11.out
  have qJ1 := J1_11.out
  go_wp2
  clear qP00 qP01 qP10 qP11 qKZ0 qKZ1 qR0 qR1 qS0 qS1 qJ0 qJ1
  go_region_held3 (fun W => W.cell? ⟨w.heap.size, 0, none⟩ = some (.slice A0_0 xs0_0.length c0_0) ∧ W.cell? ⟨w.heap.size, 1, none⟩ = some (.slice A0_1 xs0_1.length c0_1) ∧ W.cell? ⟨w.heap.size + 1, 0, none⟩ = some (.slice A1_0 xs1_0.length c1_0) ∧ W.cell? ⟨w.heap.size + 1, 1, none⟩ = some (.slice A1_1 xs1_1.length c1_1) ∧ W.cell? ⟨bZ, 0, none⟩ = some (.slice ZA0 D.length Zc0) ∧ W.cell? ⟨bZ, 1, none⟩ = some (.slice ZA1 M.length Zc1) ∧ W.cell? ⟨w4.heap.size, 0, none⟩ = some (.slice BA0 xs0_0.length xs0_0.length) ∧ W.cell? ⟨w4.heap.size, 1, none⟩ = some (.slice BA1 xs0_1.length xs0_1.length) ∧ W.cell? ⟨w6.heap.size, 0, none⟩ = some (.slice VA0 xs1_0.length xs1_0.length) ∧ W.cell? ⟨w6.heap.size, 1, none⟩ = some (.slice VA1 xs1_1.length xs1_1.length) ∧ W.cell? ⟨w8.heap.size, 0, none⟩ = some (.slice YA0 D.length Yc0) ∧ W.cell? ⟨w8.heap.size, 1, none⟩ = some (.slice YA1 M.length Yc1)) (exact HSq.out _ (by first | exact kb2 | exact kb1 | exact HDrq.out))
    ((first | (go_at_call 39; go_fit (toBox_oi (H1_0.out.at (Nat.le_refl _) (HB11.out.trans (HDrq.out.mono HB11.out.size))) (H1_1.out.at (Nat.le_refl _) (HB11.out.trans (HDrq.out.mono HB11.out.size))) (Nat.le_refl _) SM1.out); rintro e u1 ⟨KA0, KA1, rfl, oa, ob, -, ga⟩; have OK0 := Lib.hid oa; have OK1 := Lib.hid ob; clear oa ob; have kb1 : Below w11.heap.size w11 u1 := HDrq.out.trans ga) | (go_at_call 41; go_fit (eqBox_any ((OV0_11.out.bel kb1).ri H1_0.out.inI) ((OV1_11.out.bel kb1).ri H1_1.out.inI) (OK0.out.ri H1_0.out.inI) (OK1.out.ri H1_1.out.inI) (Nat.le_refl _)); rintro e w12 ⟨rfl, gb⟩; have kb2 : Below w11.heap.size w11 w12 := kb1.trans (gb.mono kb1.size))))
  try simp only [Exit.then]
  have G12 := Lib.hid kb2; have SZ12 : Hid (w11.heap.size ≤ w12.heap.size) := Lib.hid kb2.size; clear kb1 kb2 ga gb OK0 OK1
  have P00_12 : Hid (w12.cell? ⟨w.heap.size, 0, none⟩ = some (.slice A0_0 xs0_0.length c0_0)) := Lib.hid (oldcell G12.out P00_11.out)
  have P01_12 : Hid (w12.cell? ⟨w.heap.size, 1, none⟩ = some (.slice A0_1 xs0_1.length c0_1)) := Lib.hid (oldcell G12.out P01_11.out)
  have P10_12 : Hid (w12.cell? ⟨w.heap.size + 1, 0, none⟩ = some (.slice A1_0 xs1_0.length c1_0)) := Lib.hid (oldcell G12.out P10_11.out)
  have P11_12 : Hid (w12.cell? ⟨w.heap.size + 1, 1, none⟩ = some (.slice A1_1 xs1_1.length c1_1)) := Lib.hid (oldcell G12.out P11_11.out)
  have OZ0_12 : Hid (OI w12 w2.heap.size (.slice ZA0 D.length Zc0) D) := Lib.hid (OZ0_11.out.bel G12.out)
  have KZ0_12 : Hid (w12.cell? ⟨bZ, 0, none⟩ = some (.slice ZA0 D.length Zc0)) := Lib.hid (oldcell G12.out KZ0_11.out)
  have OZ1_12 : Hid (OI w12 w2.heap.size (.slice ZA1 M.length Zc1) M) := Lib.hid (OZ1_11.out.bel G12.out)
  have KZ1_12 : Hid (w12.cell? ⟨bZ, 1, none⟩ = some (.slice ZA1 M.length Zc1)) := Lib.hid (oldcell G12.out KZ1_11.out)
  have OB0_12 : Hid (OI w12 w3.heap.size (.slice BA0 xs0_0.length xs0_0.length) xs0_0) := Lib.hid (OB0_11.out.bel G12.out)
  have OB1_12 : Hid (OI w12 w3.heap.size (.slice BA1 xs0_1.length xs0_1.length) xs0_1) := Lib.hid (OB1_11.out.bel G12.out)
  have R0_12 : Hid (w12.cell? ⟨w4.heap.size, 0, none⟩ = some (.slice BA0 xs0_0.length xs0_0.length)) := Lib.hid (oldcell G12.out R0_11.out)
  have R1_12 : Hid (w12.cell? ⟨w4.heap.size, 1, none⟩ = some (.slice BA1 xs0_1.length xs0_1.length)) := Lib.hid (oldcell G12.out R1_11.out)
  have OV0_12 : Hid (OI w12 w5.heap.size (.slice VA0 xs1_0.length xs1_0.length) xs1_0) := Lib.hid (OV0_11.out.bel G12.out)
  have OV1_12 : Hid (OI w12 w5.heap.size (.slice VA1 xs1_1.length xs1_1.length) xs1_1) := Lib.hid (OV1_11.out.bel G12.out)
  have S0_12 : Hid (w12.cell? ⟨w6.heap.size, 0, none⟩ = some (.slice VA0 xs1_0.length xs1_0.length)) := Lib.hid (oldcell G12.out S0_11.out)
  have S1_12 : Hid (w12.cell? ⟨w6.heap.size, 1, none⟩ = some (.slice VA1 xs1_1.length xs1_1.length)) := Lib.hid (oldcell G12.out S1_11.out)
  have OY0_12 : Hid (OI w12 w7.heap.size (.slice YA0 D.length Yc0) D) := Lib.hid (OY0_11.out.bel G12.out)
  have OY1_12 : Hid (OI w12 w7.heap.size (.slice YA1 M.length Yc1) M) := Lib.hid (OY1_11.out.bel G12.out)
  have J0_12 : Hid (w12.cell? ⟨w8.heap.size, 0, none⟩ = some (.slice YA0 D.length Yc0)) := Lib.hid (oldcell G12.out J0_11.out)
  have J1_12 : Hid (w12.cell? ⟨w8.heap.size, 1, none⟩ = some (.slice YA1 M.length Yc1)) := Lib.hid (oldcell G12.out J1_11.out)
  have HB12 : Hid (Below w.heap.size w w12) := Lib.hid (HB11.out.trans (G12.out.mono HB11.out.size))
  have qP00 := P00_12.out
  have qP01 := P01_12.out
  have qP10 := P10_12.out
  have qP11 := P11_12.out
  have qKZ0 := KZ0_12.out
  have qKZ1 := KZ1_12.out
  have qR0 := R0_12.out
  have qR1 := R1_12.out
  have qS0 := S0_12.out
  have qS1 := S1_12.out
  have qJ0 := J0_12.out
  have qJ1 := J1_12.out
  go_wp2_with fail
  clear qP00 qP01 qP10 qP11 qKZ0 qKZ1 qR0 qR1 qS0 qS1 qJ0 qJ1
  refine (markBox_any (lo := w3.heap.size) (hi := w4.heap.size) OB0_12.out OB1_12.out IB0.out IB1.out XB.out (by have s0 := SZ0.out; have s1 := SZ1.out; have s2 := SZ2.out; have s3 := SZ3.out; have s4 := SZ4.out; have s5 := SZ5.out; have s6 := SZ6.out; have s7 := SZ7.out; have s8 := SZ8.out; have s9 := SZ9.out; have s10 := SZ10.out; have s11 := SZ11.out; have s12 := SZ12.out; omega) 1 (by have h1 := SM0.out; omega)).mono ?_
  rintro e w13 ⟨rfl, _, _, mm⟩
  have Mv13 : Hid (Mv w3.heap.size w4.heap.size w12 w13) := Lib.hid (mm)
  have SZ13 : Hid (w12.heap.size ≤ w13.heap.size) := Lib.hid Mv13.out.2.2.2.1
  have P00_13 : Hid (w13.cell? ⟨w.heap.size, 0, none⟩ = some (.slice A0_0 xs0_0.length c0_0)) := Lib.hid (Mv13.out.cell P00_12.out (by have s0 := SZ0.out; have s1 := SZ1.out; have s2 := SZ2.out; have s3 := SZ3.out; have s4 := SZ4.out; have s5 := SZ5.out; have s6 := SZ6.out; have s7 := SZ7.out; have s8 := SZ8.out; have s9 := SZ9.out; have s10 := SZ10.out; have s11 := SZ11.out; have s12 := SZ12.out; have s13 := SZ13.out; simp only; omega))
  have P01_13 : Hid (w13.cell? ⟨w.heap.size, 1, none⟩ = some (.slice A0_1 xs0_1.length c0_1)) := Lib.hid (Mv13.out.cell P01_12.out (by have s0 := SZ0.out; have s1 := SZ1.out; have s2 := SZ2.out; have s3 := SZ3.out; have s4 := SZ4.out; have s5 := SZ5.out; have s6 := SZ6.out; have s7 := SZ7.out; have s8 := SZ8.out; have s9 := SZ9.out; have s10 := SZ10.out; have s11 := SZ11.out; have s12 := SZ12.out; have s13 := SZ13.out; simp only; omega))
  have P10_13 : Hid (w13.cell? ⟨w.heap.size + 1, 0, none⟩ = some (.slice A1_0 xs1_0.length c1_0)) := Lib.hid (Mv13.out.cell P10_12.out (by have s0 := SZ0.out; have s1 := SZ1.out; have s2 := SZ2.out; have s3 := SZ3.out; have s4 := SZ4.out; have s5 := SZ5.out; have s6 := SZ6.out; have s7 := SZ7.out; have s8 := SZ8.out; have s9 := SZ9.out; have s10 := SZ10.out; have s11 := SZ11.out; have s12 := SZ12.out; have s13 := SZ13.out; simp only; omega))
  have P11_13 : Hid (w13.cell? ⟨w.heap.size + 1, 1, none⟩ = some (.slice A1_1 xs1_1.length c1_1)) := Lib.hid (Mv13.out.cell P11_12.out (by have s0 := SZ0.out; have s1 := SZ1.out; have s2 := SZ2.out; have s3 := SZ3.out; have s4 := SZ4.out; have s5 := SZ5.out; have s6 := SZ6.out; have s7 := SZ7.out; have s8 := SZ8.out; have s9 := SZ9.out; have s10 := SZ10.out; have s11 := SZ11.out; have s12 := SZ12.out; have s13 := SZ13.out; simp only; omega))
  have OZ0_13 : Hid (OI w13 w2.heap.size (.slice ZA0 D.length Zc0) D) := Lib.hid (OZ0_12.out.mv Mv13.out (fun g hg => by have := IZ0.out g hg; have s0 := SZ0.out; have s1 := SZ1.out; have s2 := SZ2.out; have s3 := SZ3.out; have s4 := SZ4.out; have s5 := SZ5.out; have s6 := SZ6.out; have s7 := SZ7.out; have s8 := SZ8.out; have s9 := SZ9.out; have s10 := SZ10.out; have s11 := SZ11.out; have s12 := SZ12.out; have s13 := SZ13.out; omega))
  have KZ0_13 : Hid (w13.cell? ⟨bZ, 0, none⟩ = some (.slice ZA0 D.length Zc0)) := Lib.hid (Mv13.out.cell KZ0_12.out (by have s0 := SZ0.out; have s1 := SZ1.out; have s2 := SZ2.out; have s3 := SZ3.out; have s4 := SZ4.out; have s5 := SZ5.out; have s6 := SZ6.out; have s7 := SZ7.out; have s8 := SZ8.out; have s9 := SZ9.out; have s10 := SZ10.out; have s11 := SZ11.out; have s12 := SZ12.out; have s13 := SZ13.out; simp only; omega))
  have OZ1_13 : Hid (OI w13 w2.heap.size (.slice ZA1 M.length Zc1) M) := Lib.hid (OZ1_12.out.mv Mv13.out (fun g hg => by have := IZ1.out g hg; have s0 := SZ0.out; have s1 := SZ1.out; have s2 := SZ2.out; have s3 := SZ3.out; have s4 := SZ4.out; have s5 := SZ5.out; have s6 := SZ6.out; have s7 := SZ7.out; have s8 := SZ8.out; have s9 := SZ9.out; have s10 := SZ10.out; have s11 := SZ11.out; have s12 := SZ12.out; have s13 := SZ13.out; omega))
  have KZ1_13 : Hid (w13.cell? ⟨bZ, 1, none⟩ = some (.slice ZA1 M.length Zc1)) := Lib.hid (Mv13.out.cell KZ1_12.out (by have s0 := SZ0.out; have s1 := SZ1.out; have s2 := SZ2.out; have s3 := SZ3.out; have s4 := SZ4.out; have s5 := SZ5.out; have s6 := SZ6.out; have s7 := SZ7.out; have s8 := SZ8.out; have s9 := SZ9.out; have s10 := SZ10.out; have s11 := SZ11.out; have s12 := SZ12.out; have s13 := SZ13.out; simp only; omega))
  have OV0_13 : Hid (OI w13 w5.heap.size (.slice VA0 xs1_0.length xs1_0.length) xs1_0) := Lib.hid (OV0_12.out.mv Mv13.out (fun g hg => by have := IV0.out g hg; have s0 := SZ0.out; have s1 := SZ1.out; have s2 := SZ2.out; have s3 := SZ3.out; have s4 := SZ4.out; have s5 := SZ5.out; have s6 := SZ6.out; have s7 := SZ7.out; have s8 := SZ8.out; have s9 := SZ9.out; have s10 := SZ10.out; have s11 := SZ11.out; have s12 := SZ12.out; have s13 := SZ13.out; omega))
  have OV1_13 : Hid (OI w13 w5.heap.size (.slice VA1 xs1_1.length xs1_1.length) xs1_1) := Lib.hid (OV1_12.out.mv Mv13.out (fun g hg => by have := IV1.out g hg; have s0 := SZ0.out; have s1 := SZ1.out; have s2 := SZ2.out; have s3 := SZ3.out; have s4 := SZ4.out; have s5 := SZ5.out; have s6 := SZ6.out; have s7 := SZ7.out; have s8 := SZ8.out; have s9 := SZ9.out; have s10 := SZ10.out; have s11 := SZ11.out; have s12 := SZ12.out; have s13 := SZ13.out; omega))
  have S0_13 : Hid (w13.cell? ⟨w6.heap.size, 0, none⟩ = some (.slice VA0 xs1_0.length xs1_0.length)) := Lib.hid (Mv13.out.cell S0_12.out (by have s0 := SZ0.out; have s1 := SZ1.out; have s2 := SZ2.out; have s3 := SZ3.out; have s4 := SZ4.out; have s5 := SZ5.out; have s6 := SZ6.out; have s7 := SZ7.out; have s8 := SZ8.out; have s9 := SZ9.out; have s10 := SZ10.out; have s11 := SZ11.out; have s12 := SZ12.out; have s13 := SZ13.out; simp only; omega))
  have S1_13 : Hid (w13.cell? ⟨w6.heap.size, 1, none⟩ = some (.slice VA1 xs1_1.length xs1_1.length)) := Lib.hid (Mv13.out.cell S1_12.out (by have s0 := SZ0.out; have s1 := SZ1.out; have s2 := SZ2.out; have s3 := SZ3.out; have s4 := SZ4.out; have s5 := SZ5.out; have s6 := SZ6.out; have s7 := SZ7.out; have s8 := SZ8.out; have s9 := SZ9.out; have s10 := SZ10.out; have s11 := SZ11.out; have s12 := SZ12.out; have s13 := SZ13.out; simp only; omega))
  have OY0_13 : Hid (OI w13 w7.heap.size (.slice YA0 D.length Yc0) D) := Lib.hid (OY0_12.out.mv Mv13.out (fun g hg => by have := IY0.out g hg; have s0 := SZ0.out; have s1 := SZ1.out; have s2 := SZ2.out; have s3 := SZ3.out; have s4 := SZ4.out; have s5 := SZ5.out; have s6 := SZ6.out; have s7 := SZ7.out; have s8 := SZ8.out; have s9 := SZ9.out; have s10 := SZ10.out; have s11 := SZ11.out; have s12 := SZ12.out; have s13 := SZ13.out; omega))
  have OY1_13 : Hid (OI w13 w7.heap.size (.slice YA1 M.length Yc1) M) := Lib.hid (OY1_12.out.mv Mv13.out (fun g hg => by have := IY1.out g hg; have s0 := SZ0.out; have s1 := SZ1.out; have s2 := SZ2.out; have s3 := SZ3.out; have s4 := SZ4.out; have s5 := SZ5.out; have s6 := SZ6.out; have s7 := SZ7.out; have s8 := SZ8.out; have s9 := SZ9.out; have s10 := SZ10.out; have s11 := SZ11.out; have s12 := SZ12.out; have s13 := SZ13.out; omega))
  have J0_13 : Hid (w13.cell? ⟨w8.heap.size, 0, none⟩ = some (.slice YA0 D.length Yc0)) := Lib.hid (Mv13.out.cell J0_12.out (by have s0 := SZ0.out; have s1 := SZ1.out; have s2 := SZ2.out; have s3 := SZ3.out; have s4 := SZ4.out; have s5 := SZ5.out; have s6 := SZ6.out; have s7 := SZ7.out; have s8 := SZ8.out; have s9 := SZ9.out; have s10 := SZ10.out; have s11 := SZ11.out; have s12 := SZ12.out; have s13 := SZ13.out; simp only; omega))
  have J1_13 : Hid (w13.cell? ⟨w8.heap.size, 1, none⟩ = some (.slice YA1 M.length Yc1)) := Lib.hid (Mv13.out.cell J1_12.out (by have s0 := SZ0.out; have s1 := SZ1.out; have s2 := SZ2.out; have s3 := SZ3.out; have s4 := SZ4.out; have s5 := SZ5.out; have s6 := SZ6.out; have s7 := SZ7.out; have s8 := SZ8.out; have s9 := SZ9.out; have s10 := SZ10.out; have s11 := SZ11.out; have s12 := SZ12.out; have s13 := SZ13.out; simp only; omega))
  have HB13 : Hid (Below w.heap.size w w13) := Lib.hid (Mv13.out.below HB12.out (by have s0 := SZ0.out; have s1 := SZ1.out; have s2 := SZ2.out; have s3 := SZ3.out; have s4 := SZ4.out; have s5 := SZ5.out; have s6 := SZ6.out; have s7 := SZ7.out; have s8 := SZ8.out; have s9 := SZ9.out; have s10 := SZ10.out; have s11 := SZ11.out; have s12 := SZ12.out; have s13 := SZ13.out; omega) HB12.out.size)
  have qP00 := P00_13.out
  have qP01 := P01_13.out
  have qP10 := P10_13.out
  have qP11 := P11_13.out
  have qKZ0 := KZ0_13.out
  have qKZ1 := KZ1_13.out
  have qS0 := S0_13.out
  have qS1 := S1_13.out
  have qJ0 := J0_13.out
  have qJ1 := J1_13.out
  go_wp2_with fail
  clear qP00 qP01 qP10 qP11 qKZ0 qKZ1 qS0 qS1 qJ0 qJ1
  refine (markBox_any (lo := w5.heap.size) (hi := w6.heap.size) OV0_13.out OV1_13.out IV0.out IV1.out XV.out (by have s0 := SZ0.out; have s1 := SZ1.out; have s2 := SZ2.out; have s3 := SZ3.out; have s4 := SZ4.out; have s5 := SZ5.out; have s6 := SZ6.out; have s7 := SZ7.out; have s8 := SZ8.out; have s9 := SZ9.out; have s10 := SZ10.out; have s11 := SZ11.out; have s12 := SZ12.out; have s13 := SZ13.out; omega) (1 + xs0_0.length + xs0_1.length) (by have h1 := SM0.out; have h2 := SM1.out; omega)).mono ?_
  rintro e w14 ⟨rfl, _, _, mm⟩
  have Mv14 : Hid (Mv w5.heap.size w6.heap.size w13 w14) := Lib.hid (mm)
  have SZ14 : Hid (w13.heap.size ≤ w14.heap.size) := Lib.hid Mv14.out.2.2.2.1
  have P00_14 : Hid (w14.cell? ⟨w.heap.size, 0, none⟩ = some (.slice A0_0 xs0_0.length c0_0)) := Lib.hid (Mv14.out.cell P00_13.out (by have s0 := SZ0.out; have s1 := SZ1.out; have s2 := SZ2.out; have s3 := SZ3.out; have s4 := SZ4.out; have s5 := SZ5.out; have s6 := SZ6.out; have s7 := SZ7.out; have s8 := SZ8.out; have s9 := SZ9.out; have s10 := SZ10.out; have s11 := SZ11.out; have s12 := SZ12.out; have s13 := SZ13.out; have s14 := SZ14.out; simp only; omega))
  have P01_14 : Hid (w14.cell? ⟨w.heap.size, 1, none⟩ = some (.slice A0_1 xs0_1.length c0_1)) := Lib.hid (Mv14.out.cell P01_13.out (by have s0 := SZ0.out; have s1 := SZ1.out; have s2 := SZ2.out; have s3 := SZ3.out; have s4 := SZ4.out; have s5 := SZ5.out; have s6 := SZ6.out; have s7 := SZ7.out; have s8 := SZ8.out; have s9 := SZ9.out; have s10 := SZ10.out; have s11 := SZ11.out; have s12 := SZ12.out; have s13 := SZ13.out; have s14 := SZ14.out; simp only; omega))
  have P10_14 : Hid (w14.cell? ⟨w.heap.size + 1, 0, none⟩ = some (.slice A1_0 xs1_0.length c1_0)) := Lib.hid (Mv14.out.cell P10_13.out (by have s0 := SZ0.out; have s1 := SZ1.out; have s2 := SZ2.out; have s3 := SZ3.out; have s4 := SZ4.out; have s5 := SZ5.out; have s6 := SZ6.out; have s7 := SZ7.out; have s8 := SZ8.out; have s9 := SZ9.out; have s10 := SZ10.out; have s11 := SZ11.out; have s12 := SZ12.out; have s13 := SZ13.out; have s14 := SZ14.out; simp only; omega))
  have P11_14 : Hid (w14.cell? ⟨w.heap.size + 1, 1, none⟩ = some (.slice A1_1 xs1_1.length c1_1)) := Lib.hid (Mv14.out.cell P11_13.out (by have s0 := SZ0.out; have s1 := SZ1.out; have s2 := SZ2.out; have s3 := SZ3.out; have s4 := SZ4.out; have s5 := SZ5.out; have s6 := SZ6.out; have s7 := SZ7.out; have s8 := SZ8.out; have s9 := SZ9.out; have s10 := SZ10.out; have s11 := SZ11.out; have s12 := SZ12.out; have s13 := SZ13.out; have s14 := SZ14.out; simp only; omega))
  have OZ0_14 : Hid (OI w14 w2.heap.size (.slice ZA0 D.length Zc0) D) := Lib.hid (OZ0_13.out.mv Mv14.out (fun g hg => by have := IZ0.out g hg; have s0 := SZ0.out; have s1 := SZ1.out; have s2 := SZ2.out; have s3 := SZ3.out; have s4 := SZ4.out; have s5 := SZ5.out; have s6 := SZ6.out; have s7 := SZ7.out; have s8 := SZ8.out; have s9 := SZ9.out; have s10 := SZ10.out; have s11 := SZ11.out; have s12 := SZ12.out; have s13 := SZ13.out; have s14 := SZ14.out; omega))
  have KZ0_14 : Hid (w14.cell? ⟨bZ, 0, none⟩ = some (.slice ZA0 D.length Zc0)) := Lib.hid (Mv14.out.cell KZ0_13.out (by have s0 := SZ0.out; have s1 := SZ1.out; have s2 := SZ2.out; have s3 := SZ3.out; have s4 := SZ4.out; have s5 := SZ5.out; have s6 := SZ6.out; have s7 := SZ7.out; have s8 := SZ8.out; have s9 := SZ9.out; have s10 := SZ10.out; have s11 := SZ11.out; have s12 := SZ12.out; have s13 := SZ13.out; have s14 := SZ14.out; simp only; omega))
  have OZ1_14 : Hid (OI w14 w2.heap.size (.slice ZA1 M.length Zc1) M) := Lib.hid (OZ1_13.out.mv Mv14.out (fun g hg => by have := IZ1.out g hg; have s0 := SZ0.out; have s1 := SZ1.out; have s2 := SZ2.out; have s3 := SZ3.out; have s4 := SZ4.out; have s5 := SZ5.out; have s6 := SZ6.out; have s7 := SZ7.out; have s8 := SZ8.out; have s9 := SZ9.out; have s10 := SZ10.out; have s11 := SZ11.out; have s12 := SZ12.out; have s13 := SZ13.out; have s14 := SZ14.out; omega))
  have KZ1_14 : Hid (w14.cell? ⟨bZ, 1, none⟩ = some (.slice ZA1 M.length Zc1)) := Lib.hid (Mv14.out.cell KZ1_13.out (by have s0 := SZ0.out; have s1 := SZ1.out; have s2 := SZ2.out; have s3 := SZ3.out; have s4 := SZ4.out; have s5 := SZ5.out; have s6 := SZ6.out; have s7 := SZ7.out; have s8 := SZ8.out; have s9 := SZ9.out; have s10 := SZ10.out; have s11 := SZ11.out; have s12 := SZ12.out; have s13 := SZ13.out; have s14 := SZ14.out; simp only; omega))
  have OY0_14 : Hid (OI w14 w7.heap.size (.slice YA0 D.length Yc0) D) := Lib.hid (OY0_13.out.mv Mv14.out (fun g hg => by have := IY0.out g hg; have s0 := SZ0.out; have s1 := SZ1.out; have s2 := SZ2.out; have s3 := SZ3.out; have s4 := SZ4.out; have s5 := SZ5.out; have s6 := SZ6.out; have s7 := SZ7.out; have s8 := SZ8.out; have s9 := SZ9.out; have s10 := SZ10.out; have s11 := SZ11.out; have s12 := SZ12.out; have s13 := SZ13.out; have s14 := SZ14.out; omega))
  have OY1_14 : Hid (OI w14 w7.heap.size (.slice YA1 M.length Yc1) M) := Lib.hid (OY1_13.out.mv Mv14.out (fun g hg => by have := IY1.out g hg; have s0 := SZ0.out; have s1 := SZ1.out; have s2 := SZ2.out; have s3 := SZ3.out; have s4 := SZ4.out; have s5 := SZ5.out; have s6 := SZ6.out; have s7 := SZ7.out; have s8 := SZ8.out; have s9 := SZ9.out; have s10 := SZ10.out; have s11 := SZ11.out; have s12 := SZ12.out; have s13 := SZ13.out; have s14 := SZ14.out; omega))
  have J0_14 : Hid (w14.cell? ⟨w8.heap.size, 0, none⟩ = some (.slice YA0 D.length Yc0)) := Lib.hid (Mv14.out.cell J0_13.out (by have s0 := SZ0.out; have s1 := SZ1.out; have s2 := SZ2.out; have s3 := SZ3.out; have s4 := SZ4.out; have s5 := SZ5.out; have s6 := SZ6.out; have s7 := SZ7.out; have s8 := SZ8.out; have s9 := SZ9.out; have s10 := SZ10.out; have s11 := SZ11.out; have s12 := SZ12.out; have s13 := SZ13.out; have s14 := SZ14.out; simp only; omega))
  have J1_14 : Hid (w14.cell? ⟨w8.heap.size, 1, none⟩ = some (.slice YA1 M.length Yc1)) := Lib.hid (Mv14.out.cell J1_13.out (by have s0 := SZ0.out; have s1 := SZ1.out; have s2 := SZ2.out; have s3 := SZ3.out; have s4 := SZ4.out; have s5 := SZ5.out; have s6 := SZ6.out; have s7 := SZ7.out; have s8 := SZ8.out; have s9 := SZ9.out; have s10 := SZ10.out; have s11 := SZ11.out; have s12 := SZ12.out; have s13 := SZ13.out; have s14 := SZ14.out; simp only; omega))
  have HB14 : Hid (Below w.heap.size w w14) := Lib.hid (Mv14.out.below HB13.out (by have s0 := SZ0.out; have s1 := SZ1.out; have s2 := SZ2.out; have s3 := SZ3.out; have s4 := SZ4.out; have s5 := SZ5.out; have s6 := SZ6.out; have s7 := SZ7.out; have s8 := SZ8.out; have s9 := SZ9.out; have s10 := SZ10.out; have s11 := SZ11.out; have s12 := SZ12.out; have s13 := SZ13.out; have s14 := SZ14.out; omega) HB13.out.size)
  have neg9 : ¬ (((1 + xs0_0.length + xs0_1.length + xs1_0.length + xs1_1.length : Nat) : Int) < 0) := by omega
  have qP00 := P00_14.out
  have qP01 := P01_14.out
  have qP10 := P10_14.out
  have qP11 := P11_14.out
  have qKZ0 := KZ0_14.out
  have qKZ1 := KZ1_14.out
  have qJ0 := J0_14.out
  have qJ1 := J1_14.out
  go_wp2_with fail
  clear qP00 qP01 qP10 qP11 qKZ0 qKZ1 qJ0 qJ1
  refine (eqBox_any (OY0_14.out.ri ID.out) (OY1_14.out.ri IM.out) (OZ0_14.out.ri ID.out) (OZ1_14.out.ri IM.out) (Nat.le_refl _)).mono ?_
  rintro e w15 ⟨rfl, g⟩
  have G15 := Lib.hid g; have SZ15 : Hid (w14.heap.size ≤ w15.heap.size) := Lib.hid g.size; clear g
  have P00_15 : Hid (w15.cell? ⟨w.heap.size, 0, none⟩ = some (.slice A0_0 xs0_0.length c0_0)) := Lib.hid (oldcell G15.out P00_14.out)
  have P01_15 : Hid (w15.cell? ⟨w.heap.size, 1, none⟩ = some (.slice A0_1 xs0_1.length c0_1)) := Lib.hid (oldcell G15.out P01_14.out)
  have P10_15 : Hid (w15.cell? ⟨w.heap.size + 1, 0, none⟩ = some (.slice A1_0 xs1_0.length c1_0)) := Lib.hid (oldcell G15.out P10_14.out)
  have P11_15 : Hid (w15.cell? ⟨w.heap.size + 1, 1, none⟩ = some (.slice A1_1 xs1_1.length c1_1)) := Lib.hid (oldcell G15.out P11_14.out)
  have OZ0_15 : Hid (OI w15 w2.heap.size (.slice ZA0 D.length Zc0) D) := Lib.hid (OZ0_14.out.bel G15.out)
  have KZ0_15 : Hid (w15.cell? ⟨bZ, 0, none⟩ = some (.slice ZA0 D.length Zc0)) := Lib.hid (oldcell G15.out KZ0_14.out)
  have OZ1_15 : Hid (OI w15 w2.heap.size (.slice ZA1 M.length Zc1) M) := Lib.hid (OZ1_14.out.bel G15.out)
  have KZ1_15 : Hid (w15.cell? ⟨bZ, 1, none⟩ = some (.slice ZA1 M.length Zc1)) := Lib.hid (oldcell G15.out KZ1_14.out)
  have OY0_15 : Hid (OI w15 w7.heap.size (.slice YA0 D.length Yc0) D) := Lib.hid (OY0_14.out.bel G15.out)
  have OY1_15 : Hid (OI w15 w7.heap.size (.slice YA1 M.length Yc1) M) := Lib.hid (OY1_14.out.bel G15.out)
  have J0_15 : Hid (w15.cell? ⟨w8.heap.size, 0, none⟩ = some (.slice YA0 D.length Yc0)) := Lib.hid (oldcell G15.out J0_14.out)
  have J1_15 : Hid (w15.cell? ⟨w8.heap.size, 1, none⟩ = some (.slice YA1 M.length Yc1)) := Lib.hid (oldcell G15.out J1_14.out)
  have HB15 : Hid (Below w.heap.size w w15) := Lib.hid (HB14.out.trans (G15.out.mono HB14.out.size))
  have qP00 := P00_15.out
  have qP01 := P01_15.out
  have qP10 := P10_15.out
  have qP11 := P11_15.out
  have qKZ0 := KZ0_15.out
  have qKZ1 := KZ1_15.out
  have qJ0 := J0_15.out
  have qJ1 := J1_15.out
  go_wp2_with fail
  clear qP00 qP01 qP10 qP11 qKZ0 qKZ1 qJ0 qJ1
  refine (markBox_any (lo := w7.heap.size) (hi := w8.heap.size) OY0_15.out OY1_15.out IY0.out IY1.out XY.out (by have s0 := SZ0.out; have s1 := SZ1.out; have s2 := SZ2.out; have s3 := SZ3.out; have s4 := SZ4.out; have s5 := SZ5.out; have s6 := SZ6.out; have s7 := SZ7.out; have s8 := SZ8.out; have s9 := SZ9.out; have s10 := SZ10.out; have s11 := SZ11.out; have s12 := SZ12.out; have s13 := SZ13.out; have s14 := SZ14.out; have s15 := SZ15.out; omega) 1 (by have h1 := LD.out; have h2 := LM.out; omega)).mono ?_
  rintro e w16 ⟨rfl, oa, ob, mm⟩
  have Mv16 : Hid (Mv w7.heap.size w8.heap.size w15 w16) := Lib.hid (mm)
  have SZ16 : Hid (w15.heap.size ≤ w16.heap.size) := Lib.hid Mv16.out.2.2.2.1
  have P00_16 : Hid (w16.cell? ⟨w.heap.size, 0, none⟩ = some (.slice A0_0 xs0_0.length c0_0)) := Lib.hid (Mv16.out.cell P00_15.out (by have s0 := SZ0.out; have s1 := SZ1.out; have s2 := SZ2.out; have s3 := SZ3.out; have s4 := SZ4.out; have s5 := SZ5.out; have s6 := SZ6.out; have s7 := SZ7.out; have s8 := SZ8.out; have s9 := SZ9.out; have s10 := SZ10.out; have s11 := SZ11.out; have s12 := SZ12.out; have s13 := SZ13.out; have s14 := SZ14.out; have s15 := SZ15.out; have s16 := SZ16.out; simp only; omega))
  have P01_16 : Hid (w16.cell? ⟨w.heap.size, 1, none⟩ = some (.slice A0_1 xs0_1.length c0_1)) := Lib.hid (Mv16.out.cell P01_15.out (by have s0 := SZ0.out; have s1 := SZ1.out; have s2 := SZ2.out; have s3 := SZ3.out; have s4 := SZ4.out; have s5 := SZ5.out; have s6 := SZ6.out; have s7 := SZ7.out; have s8 := SZ8.out; have s9 := SZ9.out; have s10 := SZ10.out; have s11 := SZ11.out; have s12 := SZ12.out; have s13 := SZ13.out; have s14 := SZ14.out; have s15 := SZ15.out; have s16 := SZ16.out; simp only; omega))
  have P10_16 : Hid (w16.cell? ⟨w.heap.size + 1, 0, none⟩ = some (.slice A1_0 xs1_0.length c1_0)) := Lib.hid (Mv16.out.cell P10_15.out (by have s0 := SZ0.out; have s1 := SZ1.out; have s2 := SZ2.out; have s3 := SZ3.out; have s4 := SZ4.out; have s5 := SZ5.out; have s6 := SZ6.out; have s7 := SZ7.out; have s8 := SZ8.out; have s9 := SZ9.out; have s10 := SZ10.out; have s11 := SZ11.out; have s12 := SZ12.out; have s13 := SZ13.out; have s14 := SZ14.out; have s15 := SZ15.out; have s16 := SZ16.out; simp only; omega))
  have P11_16 : Hid (w16.cell? ⟨w.heap.size + 1, 1, none⟩ = some (.slice A1_1 xs1_1.length c1_1)) := Lib.hid (Mv16.out.cell P11_15.out (by have s0 := SZ0.out; have s1 := SZ1.out; have s2 := SZ2.out; have s3 := SZ3.out; have s4 := SZ4.out; have s5 := SZ5.out; have s6 := SZ6.out; have s7 := SZ7.out; have s8 := SZ8.out; have s9 := SZ9.out; have s10 := SZ10.out; have s11 := SZ11.out; have s12 := SZ12.out; have s13 := SZ13.out; have s14 := SZ14.out; have s15 := SZ15.out; have s16 := SZ16.out; simp only; omega))
  have OZ0_16 : Hid (OI w16 w2.heap.size (.slice ZA0 D.length Zc0) D) := Lib.hid (OZ0_15.out.mv Mv16.out (fun g hg => by have := IZ0.out g hg; have s0 := SZ0.out; have s1 := SZ1.out; have s2 := SZ2.out; have s3 := SZ3.out; have s4 := SZ4.out; have s5 := SZ5.out; have s6 := SZ6.out; have s7 := SZ7.out; have s8 := SZ8.out; have s9 := SZ9.out; have s10 := SZ10.out; have s11 := SZ11.out; have s12 := SZ12.out; have s13 := SZ13.out; have s14 := SZ14.out; have s15 := SZ15.out; have s16 := SZ16.out; omega))
  have KZ0_16 : Hid (w16.cell? ⟨bZ, 0, none⟩ = some (.slice ZA0 D.length Zc0)) := Lib.hid (Mv16.out.cell KZ0_15.out (by have s0 := SZ0.out; have s1 := SZ1.out; have s2 := SZ2.out; have s3 := SZ3.out; have s4 := SZ4.out; have s5 := SZ5.out; have s6 := SZ6.out; have s7 := SZ7.out; have s8 := SZ8.out; have s9 := SZ9.out; have s10 := SZ10.out; have s11 := SZ11.out; have s12 := SZ12.out; have s13 := SZ13.out; have s14 := SZ14.out; have s15 := SZ15.out; have s16 := SZ16.out; simp only; omega))
  have OZ1_16 : Hid (OI w16 w2.heap.size (.slice ZA1 M.length Zc1) M) := Lib.hid (OZ1_15.out.mv Mv16.out (fun g hg => by have := IZ1.out g hg; have s0 := SZ0.out; have s1 := SZ1.out; have s2 := SZ2.out; have s3 := SZ3.out; have s4 := SZ4.out; have s5 := SZ5.out; have s6 := SZ6.out; have s7 := SZ7.out; have s8 := SZ8.out; have s9 := SZ9.out; have s10 := SZ10.out; have s11 := SZ11.out; have s12 := SZ12.out; have s13 := SZ13.out; have s14 := SZ14.out; have s15 := SZ15.out; have s16 := SZ16.out; omega))
  have KZ1_16 : Hid (w16.cell? ⟨bZ, 1, none⟩ = some (.slice ZA1 M.length Zc1)) := Lib.hid (Mv16.out.cell KZ1_15.out (by have s0 := SZ0.out; have s1 := SZ1.out; have s2 := SZ2.out; have s3 := SZ3.out; have s4 := SZ4.out; have s5 := SZ5.out; have s6 := SZ6.out; have s7 := SZ7.out; have s8 := SZ8.out; have s9 := SZ9.out; have s10 := SZ10.out; have s11 := SZ11.out; have s12 := SZ12.out; have s13 := SZ13.out; have s14 := SZ14.out; have s15 := SZ15.out; have s16 := SZ16.out; simp only; omega))
  have J0_16 : Hid (w16.cell? ⟨w8.heap.size, 0, none⟩ = some (.slice YA0 D.length Yc0)) := Lib.hid (Mv16.out.cell J0_15.out (by have s0 := SZ0.out; have s1 := SZ1.out; have s2 := SZ2.out; have s3 := SZ3.out; have s4 := SZ4.out; have s5 := SZ5.out; have s6 := SZ6.out; have s7 := SZ7.out; have s8 := SZ8.out; have s9 := SZ9.out; have s10 := SZ10.out; have s11 := SZ11.out; have s12 := SZ12.out; have s13 := SZ13.out; have s14 := SZ14.out; have s15 := SZ15.out; have s16 := SZ16.out; simp only; omega))
  have J1_16 : Hid (w16.cell? ⟨w8.heap.size, 1, none⟩ = some (.slice YA1 M.length Yc1)) := Lib.hid (Mv16.out.cell J1_15.out (by have s0 := SZ0.out; have s1 := SZ1.out; have s2 := SZ2.out; have s3 := SZ3.out; have s4 := SZ4.out; have s5 := SZ5.out; have s6 := SZ6.out; have s7 := SZ7.out; have s8 := SZ8.out; have s9 := SZ9.out; have s10 := SZ10.out; have s11 := SZ11.out; have s12 := SZ12.out; have s13 := SZ13.out; have s14 := SZ14.out; have s15 := SZ15.out; have s16 := SZ16.out; simp only; omega))
  have HB16 : Hid (Below w.heap.size w w16) := Lib.hid (Mv16.out.below HB15.out (by have s0 := SZ0.out; have s1 := SZ1.out; have s2 := SZ2.out; have s3 := SZ3.out; have s4 := SZ4.out; have s5 := SZ5.out; have s6 := SZ6.out; have s7 := SZ7.out; have s8 := SZ8.out; have s9 := SZ9.out; have s10 := SZ10.out; have s11 := SZ11.out; have s12 := SZ12.out; have s13 := SZ13.out; have s14 := SZ14.out; have s15 := SZ15.out; have s16 := SZ16.out; omega) HB15.out.size)
  have OY0_16 : Hid (OI w16 w7.heap.size (.slice YA0 D.length Yc0) (marks 1 D.length)) := Lib.hid oa; have OY1_16 : Hid (OI w16 w7.heap.size (.slice YA1 M.length Yc1) (marks (1 + D.length) M.length)) := Lib.hid ob; clear oa ob
  have neg2 : ¬ (((1 + D.length + M.length : Nat) : Int) < 0) := by omega
  have qP00 := P00_16.out
  have qP01 := P01_16.out
  have qP10 := P10_16.out
  have qP11 := P11_16.out
  have qKZ0 := KZ0_16.out
  have qKZ1 := KZ1_16.out
  have qJ0 := J0_16.out
  have qJ1 := J1_16.out
  go_wp2_with fail
  clear qP00 qP01 qP10 qP11 qKZ0 qKZ1 qJ0 qJ1
  refine (heldBox_any 1 OY0_16.out OY1_16.out (by have h1 := LD.out; have h2 := LM.out; omega)).mono ?_
  rintro e w17 ⟨rfl, g⟩
  have G17 := Lib.hid g; have SZ17 : Hid (w16.heap.size ≤ w17.heap.size) := Lib.hid g.size; clear g
  have P00_17 : Hid (w17.cell? ⟨w.heap.size, 0, none⟩ = some (.slice A0_0 xs0_0.length c0_0)) := Lib.hid (oldcell G17.out P00_16.out)
  have P01_17 : Hid (w17.cell? ⟨w.heap.size, 1, none⟩ = some (.slice A0_1 xs0_1.length c0_1)) := Lib.hid (oldcell G17.out P01_16.out)
  have P10_17 : Hid (w17.cell? ⟨w.heap.size + 1, 0, none⟩ = some (.slice A1_0 xs1_0.length c1_0)) := Lib.hid (oldcell G17.out P10_16.out)
  have P11_17 : Hid (w17.cell? ⟨w.heap.size + 1, 1, none⟩ = some (.slice A1_1 xs1_1.length c1_1)) := Lib.hid (oldcell G17.out P11_16.out)
  have OZ0_17 : Hid (OI w17 w2.heap.size (.slice ZA0 D.length Zc0) D) := Lib.hid (OZ0_16.out.bel G17.out)
  have KZ0_17 : Hid (w17.cell? ⟨bZ, 0, none⟩ = some (.slice ZA0 D.length Zc0)) := Lib.hid (oldcell G17.out KZ0_16.out)
  have OZ1_17 : Hid (OI w17 w2.heap.size (.slice ZA1 M.length Zc1) M) := Lib.hid (OZ1_16.out.bel G17.out)
  have KZ1_17 : Hid (w17.cell? ⟨bZ, 1, none⟩ = some (.slice ZA1 M.length Zc1)) := Lib.hid (oldcell G17.out KZ1_16.out)
  have J0_17 : Hid (w17.cell? ⟨w8.heap.size, 0, none⟩ = some (.slice YA0 D.length Yc0)) := Lib.hid (oldcell G17.out J0_16.out)
  have J1_17 : Hid (w17.cell? ⟨w8.heap.size, 1, none⟩ = some (.slice YA1 M.length Yc1)) := Lib.hid (oldcell G17.out J1_16.out)
  have OY0_17 : Hid (OI w17 w7.heap.size (.slice YA0 D.length Yc0) (marks 1 D.length)) := Lib.hid (OY0_16.out.bel G17.out)
  have OY1_17 : Hid (OI w17 w7.heap.size (.slice YA1 M.length Yc1) (marks (1 + D.length) M.length)) := Lib.hid (OY1_16.out.bel G17.out)
  have HB17 : Hid (Below w.heap.size w w17) := Lib.hid (HB16.out.trans (G17.out.mono HB16.out.size))
  have qP00 := P00_17.out
  have qP01 := P01_17.out
  have qP10 := P10_17.out
  have qP11 := P11_17.out
  have qKZ0 := KZ0_17.out
  have qKZ1 := KZ1_17.out
  have qJ0 := J0_17.out
  have qJ1 := J1_17.out
  go_wp2
  clear qP00 qP01 qP10 qP11 qKZ0 qKZ1 qJ0 qJ1
  have HSC : Hid (∀ W, Below w17.heap.size w17 W → W.cell? ⟨w.heap.size, 0, none⟩ = some (.slice A0_0 xs0_0.length c0_0) ∧ W.cell? ⟨w.heap.size, 1, none⟩ = some (.slice A0_1 xs0_1.length c0_1) ∧ W.cell? ⟨w.heap.size + 1, 0, none⟩ = some (.slice A1_0 xs1_0.length c1_0) ∧ W.cell? ⟨w.heap.size + 1, 1, none⟩ = some (.slice A1_1 xs1_1.length c1_1)) := Lib.hid (fun W hW => ⟨oldcell hW P00_17.out, oldcell hW P01_17.out, oldcell hW P10_17.out, oldcell hW P11_17.out⟩)
  have HDrC : Hid (Below w17.heap.size w17 w17.drew) := Lib.hid (Below.refl _ _).drew
  apply wp_drawn w17 55 D M
  · refine wp_region_held_drew (S := fun W => W.cell? ⟨w.heap.size, 0, none⟩ = some (.slice A0_0 xs0_0.length c0_0) ∧ W.cell? ⟨w.heap.size, 1, none⟩ = some (.slice A0_1 xs0_1.length c0_1) ∧ W.cell? ⟨w.heap.size + 1, 0, none⟩ = some (.slice A1_0 xs1_0.length c1_0) ∧ W.cell? ⟨w.heap.size + 1, 1, none⟩ = some (.slice A1_1 xs1_1.length c1_1)) (by kernel_rfl) (HSC.out _ HDrC.out) (fun hHeld => ?_)
    refine held_yes 0 (some 95) rfl rfl (by kernel_rfl) (by kernel_rfl) (by kernel_rfl) (fun _ _ _ h => h) (by kernel_rfl) hHeld (v := ?_) (fun wz hSw => ?_) ?_
    rotate_left 1
    · (try dsimp only at hSw); go_simp; (try with_reducible rfl)
    try simp only [Act.put, List.setIfInBounds_toArray, List.set_cons_zero, List.set_cons_succ]
    refine held_yes 2 (some 97) rfl rfl (by kernel_rfl) (by kernel_rfl) (by kernel_rfl) (fun _ _ _ h => h) (by kernel_rfl) hHeld (v := ?_) (fun wz hSw => ?_) ?_
    rotate_left 1
    · (try dsimp only at hSw); go_simp; (try with_reducible rfl)
    try simp only [Act.put, List.setIfInBounds_toArray, List.set_cons_zero, List.set_cons_succ]
    refine wpAnyH_ready (rs := [1, 8]) (by kernel_rfl) (by simp) ?_
    refine AllReadyH.cons rfl (fun K hK => ?_) (AllReadyH.cons rfl (fun K hK => ?_) AllReadyH.nil)
    · skip
      go_simp
      go_at_call 39
      go_fit (toBox_rd (H0_0.out.at (Nat.le_refl _) (HB17.out.trans ((HDrC.out).mono HB17.out.size))) (H0_1.out.at (Nat.le_refl _) (HB17.out.trans ((HDrC.out).mono HB17.out.size))) (Nat.le_refl _) SM0.out)
      rintro e u1C ⟨T0, T1, rfl, ra, rb, g⟩
      have RT0 := Lib.hid ra; have RT1 := Lib.hid rb; clear ra rb
      have kb1 : Below w17.heap.size w17 u1C := (HDrC.out).trans (g.mono (HDrC.out).size)
      have g1 := g; clear g
      refine hK.out _ _ (HSC.out _ kb1) (fun hHeld => ?_)
      clear hK K
      try simp only [Act.put, List.setIfInBounds_toArray, List.set_cons_zero, List.set_cons_succ]
      refine wpAnyH_ready (rs := [3, 8]) (by kernel_rfl) (by simp) ?_
      refine AllReadyH.cons rfl (fun K hK => ?_) (AllReadyH.cons rfl (fun K hK => ?_) AllReadyH.nil)
      · skip
        go_simp
        go_at_call 39
        go_fit (toBox_rd (H1_0.out.at (Nat.le_refl _) (HB17.out.trans ((kb1).mono HB17.out.size))) (H1_1.out.at (Nat.le_refl _) (HB17.out.trans ((kb1).mono HB17.out.size))) (Nat.le_refl _) SM1.out)
        rintro e u2C ⟨U0, U1, rfl, ra, rb, g⟩
        have RU0 := Lib.hid ra; have RU1 := Lib.hid rb; clear ra rb
        have kb2 : Below w17.heap.size w17 u2C := (kb1).trans (g.mono (kb1).size)
        have g2 := g; clear g
        refine hK.out _ _ (HSC.out _ kb2) (fun hHeld => ?_)
        clear hK K
        try simp only [Act.put, List.setIfInBounds_toArray, List.set_cons_zero, List.set_cons_succ]
        refine wpAnyH_ready (rs := [4, 8]) (by kernel_rfl) (by simp) ?_
        refine AllReadyH.cons rfl (fun K hK => ?_) (AllReadyH.cons rfl (fun K hK => ?_) AllReadyH.nil)
        · skip
          go_simp
          go_at_call 52
          have kT : Below u1C.heap.size u1C (u2C) := g2
          have kU : Below u2C.heap.size u2C (u2C) := Below.refl _ _
          go_fit (pCut_is HD.out HM.out HE.out (RT0.out.at (Nat.le_refl _) kT) (RT1.out.at (Nat.le_refl _) kT) (RU0.out.at (Nat.le_refl _) kU) (RU1.out.at (Nat.le_refl _) kU) (Nat.le_refl _))
          rintro e u3C ⟨Z0, Z1, d0, d1, rfl, oa, ob, -, g⟩
          skip
          have kb3 : Below w17.heap.size w17 u3C := (kb2).trans (g.mono (kb2).size)
          have g3 := g; clear g
          refine hK.out _ _ (HSC.out _ kb3) (fun hHeld => ?_)
          clear hK K
          try simp only [Act.put, List.setIfInBounds_toArray, List.set_cons_zero, List.set_cons_succ]
          refine held_yes 5 (some 94) rfl rfl (by kernel_rfl) (by kernel_rfl) (by kernel_rfl) (fun _ _ _ h => h) (by kernel_rfl) hHeld (v := ?_) (fun wz hSw => ?_) ?_
          rotate_left 1
          · (try dsimp only at hSw); go_simp; (try with_reducible rfl)
          try simp only [Act.put, List.setIfInBounds_toArray, List.set_cons_zero, List.set_cons_succ]
          refine held_yes 6 (some 100) rfl rfl (by kernel_rfl) (by kernel_rfl) (by kernel_rfl) (fun _ _ _ h => h) (by kernel_rfl) hHeld (v := ?_) (fun wz hSw => ?_) ?_
          rotate_left 1
          · (try dsimp only at hSw); go_simp; (try with_reducible rfl)
          try simp only [Act.put, List.setIfInBounds_toArray, List.set_cons_zero, List.set_cons_succ]
          refine held_yes 7 (some 101) rfl rfl (by kernel_rfl) (by kernel_rfl) (by kernel_rfl) (fun _ _ _ h => h) (by kernel_rfl) hHeld (v := ?_) (fun wz hSw => ?_) ?_
          rotate_left 1
          · (try dsimp only at hSw); go_simp; (try with_reducible rfl)
          try simp only [Act.put, List.setIfInBounds_toArray, List.set_cons_zero, List.set_cons_succ]
          refine wpAnyH_ready (rs := [8]) (by kernel_rfl) (by simp) ?_
          refine AllReadyH.cons rfl (fun K hK => ?_) AllReadyH.nil
          go_simp
          have kbA := (kb3).alloc (kb3).size (.cells #[.slice none 0 0, .slice none 0 0] 55)
          have ryA : Two (u3C.alloc (.cells #[.slice none 0 0, .slice none 0 0] 55)) u3C.heap.size 55 (.slice none 0 0) (.slice none 0 0) := Two.new _ _ _ _
          refine hK.out _ _ (HSC.out _ kbA) (fun hHeld => ?_)
          clear hK K
          try simp only [Act.put, List.setIfInBounds_toArray, List.set_cons_zero, List.set_cons_succ]
          have y0 := (ryA).c0; have y1 := (ryA).c1; have y2 := (ryA).f 0; have y3 := (ryA).f 1
          skip
          refine wpAnyH_ready (rs := [9]) (by kernel_rfl) (by simp) ?_
          refine AllReadyH.cons rfl (fun K hK => ?_) AllReadyH.nil
          go_simp
          have F := finC (t := 55) (kb3) oa ob (kb2.size)
          refine hK.out _ _ (HSC.out _ F.2.2.2.1) (fun hHeld => ?_)
          clear hK K y0 y1 y2 y3
          try simp only [Act.put, List.setIfInBounds_toArray, List.set_cons_zero, List.set_cons_succ]
          refine held_yes 10 (some 16) rfl rfl (by kernel_rfl) (by kernel_rfl) (by kernel_rfl) (fun _ _ _ h => h) (by kernel_rfl) hHeld (v := ?_) (fun wz hSw => ?_) ?_
          rotate_left 1
          · (try dsimp only at hSw); go_simp; (try with_reducible rfl)
          try simp only [Act.put, List.setIfInBounds_toArray, List.set_cons_zero, List.set_cons_succ]
          refine wpAnyH_done (by kernel_rfl) ?_ _
          revert F
          generalize u3C.heap.size = b6
          intro F
          exact ⟨T0, T1, U0, U1, Z0, Z1, d0, d1, b6, rfl, F⟩
        · skip
          go_simp
          have kbA := (kb2).alloc (kb2).size (.cells #[.slice none 0 0, .slice none 0 0] 55)
          have ryA : Two (u2C.alloc (.cells #[.slice none 0 0, .slice none 0 0] 55)) u2C.heap.size 55 (.slice none 0 0) (.slice none 0 0) := Two.new _ _ _ _
          refine hK.out _ _ (HSC.out _ kbA) (fun hHeld => ?_)
          clear hK K
          try simp only [Act.put, List.setIfInBounds_toArray, List.set_cons_zero, List.set_cons_succ]
          refine wpAnyH_ready (rs := [4]) (by kernel_rfl) (by simp) ?_
          refine AllReadyH.cons rfl (fun K hK => ?_) AllReadyH.nil
          go_simp
          go_at_call 52
          have kT : Below u1C.heap.size u1C (u2C.alloc (.cells #[.slice none 0 0, .slice none 0 0] 55)) := g2.alloc g2.size _
          have kU : Below u2C.heap.size u2C (u2C.alloc (.cells #[.slice none 0 0, .slice none 0 0] 55)) := (Below.refl _ _).alloc (Nat.le_refl _) _
          go_fit (pCut_is HD.out HM.out HE.out (RT0.out.at (Nat.le_refl _) kT) (RT1.out.at (Nat.le_refl _) kT) (RU0.out.at (Nat.le_refl _) kU) (RU1.out.at (Nat.le_refl _) kU) (Nat.le_refl _))
          rintro e u3C ⟨Z0, Z1, d0, d1, rfl, oa, ob, -, g⟩
          skip
          have kb3 : Below w17.heap.size w17 u3C := (kbA).trans (g.mono (kbA).size)
          have ry3 := (ryA).keep g
          have g3 := g; clear g
          refine hK.out _ _ (HSC.out _ kb3) (fun hHeld => ?_)
          clear hK K
          try simp only [Act.put, List.setIfInBounds_toArray, List.set_cons_zero, List.set_cons_succ]
          refine held_yes 5 (some 94) rfl rfl (by kernel_rfl) (by kernel_rfl) (by kernel_rfl) (fun _ _ _ h => h) (by kernel_rfl) hHeld (v := ?_) (fun wz hSw => ?_) ?_
          rotate_left 1
          · (try dsimp only at hSw); go_simp; (try with_reducible rfl)
          try simp only [Act.put, List.setIfInBounds_toArray, List.set_cons_zero, List.set_cons_succ]
          refine held_yes 6 (some 100) rfl rfl (by kernel_rfl) (by kernel_rfl) (by kernel_rfl) (fun _ _ _ h => h) (by kernel_rfl) hHeld (v := ?_) (fun wz hSw => ?_) ?_
          rotate_left 1
          · (try dsimp only at hSw); go_simp; (try with_reducible rfl)
          try simp only [Act.put, List.setIfInBounds_toArray, List.set_cons_zero, List.set_cons_succ]
          refine held_yes 7 (some 101) rfl rfl (by kernel_rfl) (by kernel_rfl) (by kernel_rfl) (fun _ _ _ h => h) (by kernel_rfl) hHeld (v := ?_) (fun wz hSw => ?_) ?_
          rotate_left 1
          · (try dsimp only at hSw); go_simp; (try with_reducible rfl)
          try simp only [Act.put, List.setIfInBounds_toArray, List.set_cons_zero, List.set_cons_succ]
          have y0 := (ry3).c0; have y1 := (ry3).c1; have y2 := (ry3).f 0; have y3 := (ry3).f 1
          skip
          refine wpAnyH_ready (rs := [9]) (by kernel_rfl) (by simp) ?_
          refine AllReadyH.cons rfl (fun K hK => ?_) AllReadyH.nil
          go_simp
          have F := finB (lo := (u2C.alloc (.cells #[.slice none 0 0, .slice none 0 0] 55)).heap.size) (kb3) (ry3) oa ob ((kb2.alloc kb2.size _).size) (kb2.size) (.inl (by simp))
          refine hK.out _ _ (HSC.out _ F.2.2.2.1) (fun hHeld => ?_)
          clear hK K y0 y1 y2 y3
          try simp only [Act.put, List.setIfInBounds_toArray, List.set_cons_zero, List.set_cons_succ]
          refine held_yes 10 (some 16) rfl rfl (by kernel_rfl) (by kernel_rfl) (by kernel_rfl) (fun _ _ _ h => h) (by kernel_rfl) hHeld (v := ?_) (fun wz hSw => ?_) ?_
          rotate_left 1
          · (try dsimp only at hSw); go_simp; (try with_reducible rfl)
          try simp only [Act.put, List.setIfInBounds_toArray, List.set_cons_zero, List.set_cons_succ]
          refine wpAnyH_done (by kernel_rfl) ?_ _
          revert F
          generalize u2C.heap.size = b6
          intro F
          exact ⟨T0, T1, U0, U1, Z0, Z1, d0, d1, b6, rfl, F⟩
      · skip
        go_simp
        have kbA := (kb1).alloc (kb1).size (.cells #[.slice none 0 0, .slice none 0 0] 55)
        have ryA : Two (u1C.alloc (.cells #[.slice none 0 0, .slice none 0 0] 55)) u1C.heap.size 55 (.slice none 0 0) (.slice none 0 0) := Two.new _ _ _ _
        refine hK.out _ _ (HSC.out _ kbA) (fun hHeld => ?_)
        clear hK K
        try simp only [Act.put, List.setIfInBounds_toArray, List.set_cons_zero, List.set_cons_succ]
        refine wpAnyH_ready (rs := [3]) (by kernel_rfl) (by simp) ?_
        refine AllReadyH.cons rfl (fun K hK => ?_) AllReadyH.nil
        go_simp
        go_at_call 39
        go_fit (toBox_rd (H1_0.out.at (Nat.le_refl _) (HB17.out.trans ((kbA).mono HB17.out.size))) (H1_1.out.at (Nat.le_refl _) (HB17.out.trans ((kbA).mono HB17.out.size))) (Nat.le_refl _) SM1.out)
        rintro e u2C ⟨U0, U1, rfl, ra, rb, g⟩
        have RU0 := Lib.hid ra; have RU1 := Lib.hid rb; clear ra rb
        have kb2 : Below w17.heap.size w17 u2C := (kbA).trans (g.mono (kbA).size)
        have ry2 := (ryA).keep g
        have g2 := g; clear g
        refine hK.out _ _ (HSC.out _ kb2) (fun hHeld => ?_)
        clear hK K
        try simp only [Act.put, List.setIfInBounds_toArray, List.set_cons_zero, List.set_cons_succ]
        refine wpAnyH_ready (rs := [4]) (by kernel_rfl) (by simp) ?_
        refine AllReadyH.cons rfl (fun K hK => ?_) AllReadyH.nil
        go_simp
        go_at_call 52
        have kT : Below u1C.heap.size u1C (u2C) := ((Below.refl _ _).alloc (Nat.le_refl _) _).trans (g2.mono (by simp))
        have kU : Below u2C.heap.size u2C (u2C) := Below.refl _ _
        go_fit (pCut_is HD.out HM.out HE.out (RT0.out.at (Nat.le_refl _) kT) (RT1.out.at (Nat.le_refl _) kT) (RU0.out.at (Nat.le_refl _) kU) (RU1.out.at (Nat.le_refl _) kU) (Nat.le_refl _))
        rintro e u3C ⟨Z0, Z1, d0, d1, rfl, oa, ob, -, g⟩
        skip
        have kb3 : Below w17.heap.size w17 u3C := (kb2).trans (g.mono (kb2).size)
        have ry3 := (ry2).keep g
        have g3 := g; clear g
        refine hK.out _ _ (HSC.out _ kb3) (fun hHeld => ?_)
        clear hK K
        try simp only [Act.put, List.setIfInBounds_toArray, List.set_cons_zero, List.set_cons_succ]
        refine held_yes 5 (some 94) rfl rfl (by kernel_rfl) (by kernel_rfl) (by kernel_rfl) (fun _ _ _ h => h) (by kernel_rfl) hHeld (v := ?_) (fun wz hSw => ?_) ?_
        rotate_left 1
        · (try dsimp only at hSw); go_simp; (try with_reducible rfl)
        try simp only [Act.put, List.setIfInBounds_toArray, List.set_cons_zero, List.set_cons_succ]
        refine held_yes 6 (some 100) rfl rfl (by kernel_rfl) (by kernel_rfl) (by kernel_rfl) (fun _ _ _ h => h) (by kernel_rfl) hHeld (v := ?_) (fun wz hSw => ?_) ?_
        rotate_left 1
        · (try dsimp only at hSw); go_simp; (try with_reducible rfl)
        try simp only [Act.put, List.setIfInBounds_toArray, List.set_cons_zero, List.set_cons_succ]
        refine held_yes 7 (some 101) rfl rfl (by kernel_rfl) (by kernel_rfl) (by kernel_rfl) (fun _ _ _ h => h) (by kernel_rfl) hHeld (v := ?_) (fun wz hSw => ?_) ?_
        rotate_left 1
        · (try dsimp only at hSw); go_simp; (try with_reducible rfl)
        try simp only [Act.put, List.setIfInBounds_toArray, List.set_cons_zero, List.set_cons_succ]
        have y0 := (ry3).c0; have y1 := (ry3).c1; have y2 := (ry3).f 0; have y3 := (ry3).f 1
        skip
        refine wpAnyH_ready (rs := [9]) (by kernel_rfl) (by simp) ?_
        refine AllReadyH.cons rfl (fun K hK => ?_) AllReadyH.nil
        go_simp
        have F := finB (lo := u2C.heap.size) (kb3) (ry3) oa ob (kb2.size) (kb1.size) (.inl (by have := ry2.lt; omega))
        refine hK.out _ _ (HSC.out _ F.2.2.2.1) (fun hHeld => ?_)
        clear hK K y0 y1 y2 y3
        try simp only [Act.put, List.setIfInBounds_toArray, List.set_cons_zero, List.set_cons_succ]
        refine held_yes 10 (some 16) rfl rfl (by kernel_rfl) (by kernel_rfl) (by kernel_rfl) (fun _ _ _ h => h) (by kernel_rfl) hHeld (v := ?_) (fun wz hSw => ?_) ?_
        rotate_left 1
        · (try dsimp only at hSw); go_simp; (try with_reducible rfl)
        try simp only [Act.put, List.setIfInBounds_toArray, List.set_cons_zero, List.set_cons_succ]
        refine wpAnyH_done (by kernel_rfl) ?_ _
        revert F
        generalize u1C.heap.size = b6
        intro F
        exact ⟨T0, T1, U0, U1, Z0, Z1, d0, d1, b6, rfl, F⟩
    · skip
      go_simp
      have kbA := (HDrC.out).alloc (HDrC.out).size (.cells #[.slice none 0 0, .slice none 0 0] 55)
      have ryA : Two (w17.drew.alloc (.cells #[.slice none 0 0, .slice none 0 0] 55)) w17.heap.size 55 (.slice none 0 0) (.slice none 0 0) := Two.new _ _ _ _
      refine hK.out _ _ (HSC.out _ kbA) (fun hHeld => ?_)
      clear hK K
      try simp only [Act.put, List.setIfInBounds_toArray, List.set_cons_zero, List.set_cons_succ]
      refine wpAnyH_ready (rs := [1]) (by kernel_rfl) (by simp) ?_
      refine AllReadyH.cons rfl (fun K hK => ?_) AllReadyH.nil
      go_simp
      go_at_call 39
      go_fit (toBox_rd (H0_0.out.at (Nat.le_refl _) (HB17.out.trans ((kbA).mono HB17.out.size))) (H0_1.out.at (Nat.le_refl _) (HB17.out.trans ((kbA).mono HB17.out.size))) (Nat.le_refl _) SM0.out)
      rintro e u1C ⟨T0, T1, rfl, ra, rb, g⟩
      have RT0 := Lib.hid ra; have RT1 := Lib.hid rb; clear ra rb
      have kb1 : Below w17.heap.size w17 u1C := (kbA).trans (g.mono (kbA).size)
      have ry1 := (ryA).keep g
      have g1 := g; clear g
      refine hK.out _ _ (HSC.out _ kb1) (fun hHeld => ?_)
      clear hK K
      try simp only [Act.put, List.setIfInBounds_toArray, List.set_cons_zero, List.set_cons_succ]
      refine wpAnyH_ready (rs := [3]) (by kernel_rfl) (by simp) ?_
      refine AllReadyH.cons rfl (fun K hK => ?_) AllReadyH.nil
      go_simp
      go_at_call 39
      go_fit (toBox_rd (H1_0.out.at (Nat.le_refl _) (HB17.out.trans ((kb1).mono HB17.out.size))) (H1_1.out.at (Nat.le_refl _) (HB17.out.trans ((kb1).mono HB17.out.size))) (Nat.le_refl _) SM1.out)
      rintro e u2C ⟨U0, U1, rfl, ra, rb, g⟩
      have RU0 := Lib.hid ra; have RU1 := Lib.hid rb; clear ra rb
      have kb2 : Below w17.heap.size w17 u2C := (kb1).trans (g.mono (kb1).size)
      have ry2 := (ry1).keep g
      have g2 := g; clear g
      refine hK.out _ _ (HSC.out _ kb2) (fun hHeld => ?_)
      clear hK K
      try simp only [Act.put, List.setIfInBounds_toArray, List.set_cons_zero, List.set_cons_succ]
      refine wpAnyH_ready (rs := [4]) (by kernel_rfl) (by simp) ?_
      refine AllReadyH.cons rfl (fun K hK => ?_) AllReadyH.nil
      go_simp
      go_at_call 52
      have kT : Below u1C.heap.size u1C (u2C) := g2
      have kU : Below u2C.heap.size u2C (u2C) := Below.refl _ _
      go_fit (pCut_is HD.out HM.out HE.out (RT0.out.at (Nat.le_refl _) kT) (RT1.out.at (Nat.le_refl _) kT) (RU0.out.at (Nat.le_refl _) kU) (RU1.out.at (Nat.le_refl _) kU) (Nat.le_refl _))
      rintro e u3C ⟨Z0, Z1, d0, d1, rfl, oa, ob, -, g⟩
      skip
      have kb3 : Below w17.heap.size w17 u3C := (kb2).trans (g.mono (kb2).size)
      have ry3 := (ry2).keep g
      have g3 := g; clear g
      refine hK.out _ _ (HSC.out _ kb3) (fun hHeld => ?_)
      clear hK K
      try simp only [Act.put, List.setIfInBounds_toArray, List.set_cons_zero, List.set_cons_succ]
      refine held_yes 5 (some 94) rfl rfl (by kernel_rfl) (by kernel_rfl) (by kernel_rfl) (fun _ _ _ h => h) (by kernel_rfl) hHeld (v := ?_) (fun wz hSw => ?_) ?_
      rotate_left 1
      · (try dsimp only at hSw); go_simp; (try with_reducible rfl)
      try simp only [Act.put, List.setIfInBounds_toArray, List.set_cons_zero, List.set_cons_succ]
      refine held_yes 6 (some 100) rfl rfl (by kernel_rfl) (by kernel_rfl) (by kernel_rfl) (fun _ _ _ h => h) (by kernel_rfl) hHeld (v := ?_) (fun wz hSw => ?_) ?_
      rotate_left 1
      · (try dsimp only at hSw); go_simp; (try with_reducible rfl)
      try simp only [Act.put, List.setIfInBounds_toArray, List.set_cons_zero, List.set_cons_succ]
      refine held_yes 7 (some 101) rfl rfl (by kernel_rfl) (by kernel_rfl) (by kernel_rfl) (fun _ _ _ h => h) (by kernel_rfl) hHeld (v := ?_) (fun wz hSw => ?_) ?_
      rotate_left 1
      · (try dsimp only at hSw); go_simp; (try with_reducible rfl)
      try simp only [Act.put, List.setIfInBounds_toArray, List.set_cons_zero, List.set_cons_succ]
      have y0 := (ry3).c0; have y1 := (ry3).c1; have y2 := (ry3).f 0; have y3 := (ry3).f 1
      skip
      refine wpAnyH_ready (rs := [9]) (by kernel_rfl) (by simp) ?_
      refine AllReadyH.cons rfl (fun K hK => ?_) AllReadyH.nil
      go_simp
      have F := finB (lo := u2C.heap.size) (kb3) (ry3) oa ob (kb2.size) (Nat.le_refl _) (.inl (by have := ry2.lt; omega))
      refine hK.out _ _ (HSC.out _ F.2.2.2.1) (fun hHeld => ?_)
      clear hK K y0 y1 y2 y3
      try simp only [Act.put, List.setIfInBounds_toArray, List.set_cons_zero, List.set_cons_succ]
      refine held_yes 10 (some 16) rfl rfl (by kernel_rfl) (by kernel_rfl) (by kernel_rfl) (fun _ _ _ h => h) (by kernel_rfl) hHeld (v := ?_) (fun wz hSw => ?_) ?_
      rotate_left 1
      · (try dsimp only at hSw); go_simp; (try with_reducible rfl)
      try simp only [Act.put, List.setIfInBounds_toArray, List.set_cons_zero, List.set_cons_succ]
      refine wpAnyH_done (by kernel_rfl) ?_ _
      revert F
      generalize w17.heap.size = b6
      intro F
      exact ⟨T0, T1, U0, U1, Z0, Z1, d0, d1, b6, rfl, F⟩
  rintro a' w18 ⟨T0C, T1C, U0C, U1C, CA0, CA1, Cc0, Cc1, bC, rfl, F⟩
  have SZ18 : Hid (w17.heap.size ≤ w18.heap.size ∧ w17.heap.size ≤ bC ∧ bC < w18.heap.size) := Lib.hid ⟨F.2.2.2.1.size, F.2.2.2.2, F.1.lt⟩
  have G18 := Lib.hid F.2.2.2.1
  have P00_18 : Hid (w18.cell? ⟨w.heap.size, 0, none⟩ = some (.slice A0_0 xs0_0.length c0_0)) := Lib.hid (oldcell G18.out P00_17.out)
  have P01_18 : Hid (w18.cell? ⟨w.heap.size, 1, none⟩ = some (.slice A0_1 xs0_1.length c0_1)) := Lib.hid (oldcell G18.out P01_17.out)
  have P10_18 : Hid (w18.cell? ⟨w.heap.size + 1, 0, none⟩ = some (.slice A1_0 xs1_0.length c1_0)) := Lib.hid (oldcell G18.out P10_17.out)
  have P11_18 : Hid (w18.cell? ⟨w.heap.size + 1, 1, none⟩ = some (.slice A1_1 xs1_1.length c1_1)) := Lib.hid (oldcell G18.out P11_17.out)
  have OZ0_18 : Hid (OI w18 w2.heap.size (.slice ZA0 D.length Zc0) D) := Lib.hid (OZ0_17.out.bel G18.out)
  have KZ0_18 : Hid (w18.cell? ⟨bZ, 0, none⟩ = some (.slice ZA0 D.length Zc0)) := Lib.hid (oldcell G18.out KZ0_17.out)
  have OZ1_18 : Hid (OI w18 w2.heap.size (.slice ZA1 M.length Zc1) M) := Lib.hid (OZ1_17.out.bel G18.out)
  have KZ1_18 : Hid (w18.cell? ⟨bZ, 1, none⟩ = some (.slice ZA1 M.length Zc1)) := Lib.hid (oldcell G18.out KZ1_17.out)
  have J0_18 : Hid (w18.cell? ⟨w8.heap.size, 0, none⟩ = some (.slice YA0 D.length Yc0)) := Lib.hid (oldcell G18.out J0_17.out)
  have J1_18 : Hid (w18.cell? ⟨w8.heap.size, 1, none⟩ = some (.slice YA1 M.length Yc1)) := Lib.hid (oldcell G18.out J1_17.out)
  have OY0_18 : Hid (OI w18 w7.heap.size (.slice YA0 D.length Yc0) (marks 1 D.length)) := Lib.hid (OY0_17.out.bel G18.out)
  have OY1_18 : Hid (OI w18 w7.heap.size (.slice YA1 M.length Yc1) (marks (1 + D.length) M.length)) := Lib.hid (OY1_17.out.bel G18.out)
  have HB18 : Hid (Below w.heap.size w w18) := Lib.hid (HB17.out.trans (G18.out.mono HB17.out.size))
  have OC0_18 : Hid (OI w18 w17.heap.size (.slice CA0 D.length Cc0) D) := Lib.hid F.2.1
  have IC0 := Lib.hid OC0_18.out.wi
  have KC0_18 : Hid (w18.cell? ⟨bC, 0, none⟩ = some (.slice CA0 D.length Cc0)) := Lib.hid F.1.c0
  have OC1_18 : Hid (OI w18 w17.heap.size (.slice CA1 M.length Cc1) M) := Lib.hid F.2.2.1
  have IC1 := Lib.hid OC1_18.out.wi
  have KC1_18 : Hid (w18.cell? ⟨bC, 1, none⟩ = some (.slice CA1 M.length Cc1)) := Lib.hid F.1.c1
  clear F
  try simp only [Exit.then]
  have qP00 := P00_18.out
  have qP01 := P01_18.out
  have qP10 := P10_18.out
  have qP11 := P11_18.out
  have qKZ0 := KZ0_18.out
  have qKZ1 := KZ1_18.out
  have qJ0 := J0_18.out
  have qJ1 := J1_18.out
  have qKC0 := KC0_18.out
  have qKC1 := KC1_18.out
  go_wp2_with fail
  clear qP00 qP01 qP10 qP11 qKZ0 qKZ1 qJ0 qJ1 qKC0 qKC1
  refine (eqBox_any (OC0_18.out.ri ID.out) (OC1_18.out.ri IM.out) (OZ0_18.out.ri ID.out) (OZ1_18.out.ri IM.out) (Nat.le_refl _)).mono ?_
  rintro e w19 ⟨rfl, g⟩
  have G19 := Lib.hid g; have SZ19 : Hid (w18.heap.size ≤ w19.heap.size) := Lib.hid g.size; clear g
  have P00_19 : Hid (w19.cell? ⟨w.heap.size, 0, none⟩ = some (.slice A0_0 xs0_0.length c0_0)) := Lib.hid (oldcell G19.out P00_18.out)
  have P01_19 : Hid (w19.cell? ⟨w.heap.size, 1, none⟩ = some (.slice A0_1 xs0_1.length c0_1)) := Lib.hid (oldcell G19.out P01_18.out)
  have P10_19 : Hid (w19.cell? ⟨w.heap.size + 1, 0, none⟩ = some (.slice A1_0 xs1_0.length c1_0)) := Lib.hid (oldcell G19.out P10_18.out)
  have P11_19 : Hid (w19.cell? ⟨w.heap.size + 1, 1, none⟩ = some (.slice A1_1 xs1_1.length c1_1)) := Lib.hid (oldcell G19.out P11_18.out)
  have OZ0_19 : Hid (OI w19 w2.heap.size (.slice ZA0 D.length Zc0) D) := Lib.hid (OZ0_18.out.bel G19.out)
  have KZ0_19 : Hid (w19.cell? ⟨bZ, 0, none⟩ = some (.slice ZA0 D.length Zc0)) := Lib.hid (oldcell G19.out KZ0_18.out)
  have OZ1_19 : Hid (OI w19 w2.heap.size (.slice ZA1 M.length Zc1) M) := Lib.hid (OZ1_18.out.bel G19.out)
  have KZ1_19 : Hid (w19.cell? ⟨bZ, 1, none⟩ = some (.slice ZA1 M.length Zc1)) := Lib.hid (oldcell G19.out KZ1_18.out)
  have J0_19 : Hid (w19.cell? ⟨w8.heap.size, 0, none⟩ = some (.slice YA0 D.length Yc0)) := Lib.hid (oldcell G19.out J0_18.out)
  have J1_19 : Hid (w19.cell? ⟨w8.heap.size, 1, none⟩ = some (.slice YA1 M.length Yc1)) := Lib.hid (oldcell G19.out J1_18.out)
  have OY0_19 : Hid (OI w19 w7.heap.size (.slice YA0 D.length Yc0) (marks 1 D.length)) := Lib.hid (OY0_18.out.bel G19.out)
  have OY1_19 : Hid (OI w19 w7.heap.size (.slice YA1 M.length Yc1) (marks (1 + D.length) M.length)) := Lib.hid (OY1_18.out.bel G19.out)
  have OC0_19 : Hid (OI w19 w17.heap.size (.slice CA0 D.length Cc0) D) := Lib.hid (OC0_18.out.bel G19.out)
  have KC0_19 : Hid (w19.cell? ⟨bC, 0, none⟩ = some (.slice CA0 D.length Cc0)) := Lib.hid (oldcell G19.out KC0_18.out)
  have OC1_19 : Hid (OI w19 w17.heap.size (.slice CA1 M.length Cc1) M) := Lib.hid (OC1_18.out.bel G19.out)
  have KC1_19 : Hid (w19.cell? ⟨bC, 1, none⟩ = some (.slice CA1 M.length Cc1)) := Lib.hid (oldcell G19.out KC1_18.out)
  have HB19 : Hid (Below w.heap.size w w19) := Lib.hid (HB18.out.trans (G19.out.mono HB18.out.size))
  have qP00 := P00_19.out
  have qP01 := P01_19.out
  have qP10 := P10_19.out
  have qP11 := P11_19.out
  have qKZ0 := KZ0_19.out
  have qKZ1 := KZ1_19.out
  have qJ0 := J0_19.out
  have qJ1 := J1_19.out
  have qKC0 := KC0_19.out
  have qKC1 := KC1_19.out
  go_wp2_with fail
  clear qP00 qP01 qP10 qP11 qKZ0 qKZ1 qJ0 qJ1 qKC0 qKC1
  refine (heldBox_any 1 OY0_19.out OY1_19.out (by have h1 := LD.out; have h2 := LM.out; omega)).mono ?_
  rintro e w20 ⟨rfl, g⟩
  have G20 := Lib.hid g; have SZ20 : Hid (w19.heap.size ≤ w20.heap.size) := Lib.hid g.size; clear g
  have P00_20 : Hid (w20.cell? ⟨w.heap.size, 0, none⟩ = some (.slice A0_0 xs0_0.length c0_0)) := Lib.hid (oldcell G20.out P00_19.out)
  have P01_20 : Hid (w20.cell? ⟨w.heap.size, 1, none⟩ = some (.slice A0_1 xs0_1.length c0_1)) := Lib.hid (oldcell G20.out P01_19.out)
  have P10_20 : Hid (w20.cell? ⟨w.heap.size + 1, 0, none⟩ = some (.slice A1_0 xs1_0.length c1_0)) := Lib.hid (oldcell G20.out P10_19.out)
  have P11_20 : Hid (w20.cell? ⟨w.heap.size + 1, 1, none⟩ = some (.slice A1_1 xs1_1.length c1_1)) := Lib.hid (oldcell G20.out P11_19.out)
  have OZ0_20 : Hid (OI w20 w2.heap.size (.slice ZA0 D.length Zc0) D) := Lib.hid (OZ0_19.out.bel G20.out)
  have KZ0_20 : Hid (w20.cell? ⟨bZ, 0, none⟩ = some (.slice ZA0 D.length Zc0)) := Lib.hid (oldcell G20.out KZ0_19.out)
  have OZ1_20 : Hid (OI w20 w2.heap.size (.slice ZA1 M.length Zc1) M) := Lib.hid (OZ1_19.out.bel G20.out)
  have KZ1_20 : Hid (w20.cell? ⟨bZ, 1, none⟩ = some (.slice ZA1 M.length Zc1)) := Lib.hid (oldcell G20.out KZ1_19.out)
  have J0_20 : Hid (w20.cell? ⟨w8.heap.size, 0, none⟩ = some (.slice YA0 D.length Yc0)) := Lib.hid (oldcell G20.out J0_19.out)
  have J1_20 : Hid (w20.cell? ⟨w8.heap.size, 1, none⟩ = some (.slice YA1 M.length Yc1)) := Lib.hid (oldcell G20.out J1_19.out)
  have OY0_20 : Hid (OI w20 w7.heap.size (.slice YA0 D.length Yc0) (marks 1 D.length)) := Lib.hid (OY0_19.out.bel G20.out)
  have OY1_20 : Hid (OI w20 w7.heap.size (.slice YA1 M.length Yc1) (marks (1 + D.length) M.length)) := Lib.hid (OY1_19.out.bel G20.out)
  have OC0_20 : Hid (OI w20 w17.heap.size (.slice CA0 D.length Cc0) D) := Lib.hid (OC0_19.out.bel G20.out)
  have KC0_20 : Hid (w20.cell? ⟨bC, 0, none⟩ = some (.slice CA0 D.length Cc0)) := Lib.hid (oldcell G20.out KC0_19.out)
  have OC1_20 : Hid (OI w20 w17.heap.size (.slice CA1 M.length Cc1) M) := Lib.hid (OC1_19.out.bel G20.out)
  have KC1_20 : Hid (w20.cell? ⟨bC, 1, none⟩ = some (.slice CA1 M.length Cc1)) := Lib.hid (oldcell G20.out KC1_19.out)
  have HB20 : Hid (Below w.heap.size w w20) := Lib.hid (HB19.out.trans (G20.out.mono HB19.out.size))
  have qP00 := P00_20.out
  have qP01 := P01_20.out
  have qP10 := P10_20.out
  have qP11 := P11_20.out
  have qKZ0 := KZ0_20.out
  have qKZ1 := KZ1_20.out
  have qJ0 := J0_20.out
  have qJ1 := J1_20.out
  have qKC0 := KC0_20.out
  have qKC1 := KC1_20.out
  go_wp2_with fail
  clear qP00 qP01 qP10 qP11 qKZ0 qKZ1 qJ0 qJ1 qKC0 qKC1
  go_ret
  exact ⟨rfl, HB20.out⟩
theorem own : ownKnob Try.prog.godebug = none := by kernel_rfl
theorem laidOut : laidOutB Try.prog = true := by kernel_rfl
set_option maxRecDepth 100000 in
theorem lifted (os : Os) (started : os.Started) (H : Type) (enc : TypeId × Value → H) :
    ReturnsInHanded {} Try.checked os 12 .any (Rows.fnExactCutBoxSpec.pre6 enc Try.prog Try.f12 Rows.fnExactCutBoxRow.domain false) (Rows.fnExactCutBoxSpec.post enc Try.prog Try.f12 false true false false) := by
  refine returnsInHanded_of_change (C := Try.checked) own started (by kernel_rfl) Try.func12
    (ChangeSpec.witness6 (enc := enc) (C := Try.checked) false ⟨#[], #[.agg #[.slice none 0 0, .slice none 0 0], .agg #[.slice none 0 0, .slice none 0 0]], []⟩ 8 (by kernel_rfl) (by kernel_rfl) (by kernel_rfl) (by kernel_rfl)) ?_
  intro W base args ds gs before hval0 hW hcnd _
  have hval : ∀ (j : Nat) t v, Try.f12.params[j]? = some t → args[j]? = some v → Value.okWide Try.prog W .any base t v := hval0
  have hW' := hW
  obtain ⟨p, q, hA0, hV, rfl, hfz, hnd⟩ := hW
  have hA : DataW.TrodAll enc Try.prog W 0 (fun _ => true) true Try.f12.params.toList args.toList ds p := hA0
  rw [Try.params12] at hA hval
  obtain ⟨v0, vs0, d0, ds0, p0, q0, hargs, rfl, rfl, h0, r0⟩ := trodAll_cons hA
  obtain ⟨v1, vs1, d1, ds1, p1, q1, rfl, rfl, rfl, h1, r1⟩ := trodAll_cons r0
  obtain ⟨rfl, rfl, rfl⟩ := trodAll_nil r1
  obtain rfl : args = #[v0, v1] := by cases args; simp_all
  obtain ⟨rfl, rfl⟩ := trodVars_none hV
  have k0 := h0
  have lt0 : ∀ x ∈ p0, x.block < W.heap.size := by obtain ⟨m, hm⟩ := k0; exact DataW.trod_lt m _ _ _ hm
  obtain ⟨v0_0, xs0_0, v0_1, xs0_1, rfl, g0_0, g0_1⟩ := open_box (hval 0 52 v0 rfl rfl) h0
  have k1 := h1
  have lt1 : ∀ x ∈ p1, x.block < W.heap.size := by obtain ⟨m, hm⟩ := k1; exact DataW.trod_lt m _ _ _ hm
  obtain ⟨v1_0, xs1_0, v1_1, xs1_1, rfl, g1_0, g1_1⟩ := open_box (hval 1 52 v1 rfl rfl) h1
  clear hA0 hval0
  refine (walk W _ _ _ _ _ _ _ _ g0_0 g0_1 g1_0 g1_1).mono fun e W' ⟨he, bel⟩ => ?_
  subst he
  exact ⟨_, rfl, _, _, _, [], _, [], hW', (trodAll_cons_mk (shut_bool Try.underlying4 _) trodAll_mk0), (trodAll_cons_mk (Below.trod laidOut (by kernel_rfl) (of_decide_eq_true (by kernel_rfl)) k0 bel lt0) (trodAll_cons_mk (Below.trod laidOut (by kernel_rfl) (of_decide_eq_true (by kernel_rfl)) k1 bel lt1) trodAll_mk0)), rfl, bel.frame _, fun h => by cases h⟩
theorem over : Rows.fnExactCutBoxRow.holds Try.pinned (OpenSpec.ofChange Rows.fnExactCutBoxSpec) :=
  OpenClaim.holds_of_wide 12 Try.f12 rfl rfl rfl rfl rfl rfl rfl ⟨rfl, rfl, rfl, rfl, rfl⟩ rfl rfl rfl rfl rfl (by kernel_rfl) Try.func12 (by kernel_rfl)
    (of_decide_eq_true (by kernel_rfl)) (by unfold Func.isWrapper; rw [if_neg (of_decide_eq_false (by kernel_rfl))]; exact ⟨rfl, rfl⟩)
    (fun os started H enc _ => lifted os started H enc)
theorem proved : Rows.FnExactCutBoxSaid := over
end Go.Proofs.Ytaokifppaagalaa.fnExactCutBox
