/- The statement of the law FnExactWriteSuper: whatever the input, the program's function answers as the model's, and the input reads as it did. Its conditions are the given statement's own; nothing is added. -/
import Derived.Test.YtpjkeikaonkohaaJf
import Derived.Test.YtpjkeikaonkohaaWsL
import Derived.Test.YtpjkeikaonkohaaWsI
import Derived.Test.YtpjkeikaonkohaaDsk2
import Derived.Test.YtpjkeikaonkohaaAcc
import Derived.Test.YtpjkeikaonkohaaMrU
import Derived.Test.YtpjkeikaonkohaaFrmD
import Derived.Test.YtpjkeikaonkohaaSup
import Derived.ProofKit
import Derived.OpenShut
import Derived.ShutString
import Derived.ChangeOld
import Derived.Below
import Derived.Deep.DeepFit
import Derived.Deep.WholeRow
import Derived.Deep.RegionHeld3
namespace Go.Proofs.Ytpjkeikaonkohaa.fnExactWriteSuper
open Go.ChangeShapes Go.WideShapes Go.ChangeAt Go.RowKit
open Go.ChangeMaps (open_string shut_string)
set_option linter.unusedVariables false
theorem ans_sl {ss : List ByteArray} {ps : List Pt} {fz : Int} {off : Bool} {c : Int} {w : World} {e : Ending} {w' : World} (h : AnsDC ss ps fz off c w e w') : ∃ A1 A2 c1 c2, e = .returned (.tuple #[.agg #[.slice A1 ss.length c1, .slice A2 ps.length c2, .int .i64 fz, .bool off], .int .i64 c]) ∧
    OT w' w.heap.size (.slice A1 ss.length c1) ss ∧ OU w' w.heap.size (.slice A2 ps.length c2) ps ∧ Apart (.slice A1 ss.length c1) (.slice A2 ps.length c2) ∧ Below w.heap.size w w' := by
  obtain ⟨v1, v2, rfl, ⟨h1, h2, h3⟩, g⟩ := h
  have e1 : ∃ A cap, v1 = .slice A ss.length cap := by rcases OT.sl h1 with ⟨rfl, rfl⟩ | ⟨x, cap, rfl, _⟩ <;> exact ⟨_, _, rfl⟩
  have e2 : ∃ A cap, v2 = .slice A ps.length cap := by rcases OU.sl h2 with ⟨rfl, rfl⟩ | ⟨x, cap, rfl, _⟩ <;> exact ⟨_, _, rfl⟩
  obtain ⟨A1, c1, rfl⟩ := e1
  obtain ⟨A2, c2, rfl⟩ := e2
  exact ⟨A1, A2, c1, c2, rfl, h1, h2, h3, g⟩
set_option maxHeartbeats 16000000 in
set_option maxRecDepth 100000 in
theorem walk (w : World) (v0_0 : Value) (xs0_0 : List ByteArray) (v0_1 : Value) (xs0_1 : List Pt) (n0_2 : Int) (n0_3 : Bool) (p0 p1 p2 p3 : Int) (h0_0 : RiT w.heap.size w v0_0 xs0_0) (h0_1 : RiU w.heap.size w v0_1 xs0_1) (h0_2 : InI n0_2) (i0 : InI p0) (i1 : InI p1) :
    Calls Try.prog 15 #[.agg #[v0_0, v0_1, .int .i64 n0_2, .bool n0_3], .agg #[.int .i64 p0, .int .i64 p1, .int .i64 p2, .int .i64 p3]] w (GivesB (.bool true) w) := by
  have S0 := Lib.hid (fun (W : World) (X1 X2 : Option Addr) (g1 : RiT W.heap.size W (.slice X1 xs0_0.length xs0_0.length) xs0_0) (g2 : RiU W.heap.size W (.slice X2 xs0_1.length xs0_1.length) xs0_1) => (specWriteSuper_any g1 g2 i0 i1 (fz := n0_2) (off := n0_3) (n2 := p2) (n3 := p3)).mono fun e w' h => ans_sl h)
  have P0 := Lib.hid (fun (W : World) (X1 X2 : Option Addr) (g1 : RiT W.heap.size W (.slice X1 xs0_0.length xs0_0.length) xs0_0) (g2 : RiU W.heap.size W (.slice X2 xs0_1.length xs0_1.length) xs0_1) => (implWriteSuper_any g1 g2 i0 i1 (fz := n0_2) (off := n0_3) (n2 := p2) (n3 := p3)).mono fun e w' h => ans_sl h)
  have IDa : Hid (∀ x ∈ xs0_0, x.size ≤ maxLen) := Lib.hid h0_0.inT
  have IMa : Hid (∀ p ∈ xs0_1, InI p.1 ∧ p.2.size ≤ maxLen) := Lib.hid h0_1.wf
  have SB := Lib.hid (ws_ok n0_2 n0_3 p0 p1 p2 p3 IDa.out IMa.out)
  have ID := Lib.hid SB.out.1
  have IM := Lib.hid SB.out.2.1
  have LE := Lib.hid SB.out.2.2
  clear SB
  generalize wsS xs0_0 xs0_1 n0_2 n0_3 p0 p1 p2 p3 = D at *
  generalize wsP xs0_0 xs0_1 n0_2 n0_3 p0 p1 p2 p3 = M at *
  generalize wsF xs0_0 xs0_1 n0_2 n0_3 p0 p1 p2 p3 = fz at *
  generalize wsO xs0_0 xs0_1 n0_2 n0_3 p0 p1 p2 p3 = fo at *
  generalize wsC xs0_0 xs0_1 n0_2 n0_3 p0 p1 p2 p3 = co at *
  have eqc : (co == co) = true := by simp
  have Ha := Lib.hid h0_0; have Hb := Lib.hid h0_1
  obtain ⟨A0, c0, rfl, -, -, -⟩ := h0_0
  obtain ⟨A1, c1, rfl, -, -, -⟩ := h0_1
  have HB0 : Hid (Below w.heap.size w ((w.alloc (.cells #[.slice A0 xs0_0.length c0, .slice A1 xs0_1.length c1, .int .i64 n0_2, .bool n0_3] 25)).alloc (.cells #[.int .i64 p0, .int .i64 p1, .int .i64 p2, .int .i64 p3] 53))) := Lib.hid (((Below.refl _ _).alloc (Nat.le_refl _) _).alloc (by simp) _)
  have SZ0 : Hid (w.heap.size + 2 ≤ ((w.alloc (.cells #[.slice A0 xs0_0.length c0, .slice A1 xs0_1.length c1, .int .i64 n0_2, .bool n0_3] 25)).alloc (.cells #[.int .i64 p0, .int .i64 p1, .int .i64 p2, .int .i64 p3] 53)).heap.size) := Lib.hid (by simp)
  have F0_0 : Hid (((w.alloc (.cells #[.slice A0 xs0_0.length c0, .slice A1 xs0_1.length c1, .int .i64 n0_2, .bool n0_3] 25)).alloc (.cells #[.int .i64 p0, .int .i64 p1, .int .i64 p2, .int .i64 p3] 53)).cell? ⟨w.heap.size, 0, none⟩ = some (.slice A0 xs0_0.length c0)) := Lib.hid (by rw [cell_of_row _ _ _ _ _ _ (heap_alloc2_old w _ _)]; rfl)
  have F1_0 : Hid (((w.alloc (.cells #[.slice A0 xs0_0.length c0, .slice A1 xs0_1.length c1, .int .i64 n0_2, .bool n0_3] 25)).alloc (.cells #[.int .i64 p0, .int .i64 p1, .int .i64 p2, .int .i64 p3] 53)).cell? ⟨w.heap.size, 1, none⟩ = some (.slice A1 xs0_1.length c1)) := Lib.hid (by rw [cell_of_row _ _ _ _ _ _ (heap_alloc2_old w _ _)]; rfl)
  have F2_0 : Hid (((w.alloc (.cells #[.slice A0 xs0_0.length c0, .slice A1 xs0_1.length c1, .int .i64 n0_2, .bool n0_3] 25)).alloc (.cells #[.int .i64 p0, .int .i64 p1, .int .i64 p2, .int .i64 p3] 53)).cell? ⟨w.heap.size, 2, none⟩ = some (.int .i64 n0_2)) := Lib.hid (by rw [cell_of_row _ _ _ _ _ _ (heap_alloc2_old w _ _)]; rfl)
  have F3_0 : Hid (((w.alloc (.cells #[.slice A0 xs0_0.length c0, .slice A1 xs0_1.length c1, .int .i64 n0_2, .bool n0_3] 25)).alloc (.cells #[.int .i64 p0, .int .i64 p1, .int .i64 p2, .int .i64 p3] 53)).cell? ⟨w.heap.size, 3, none⟩ = some (.bool n0_3)) := Lib.hid (by rw [cell_of_row _ _ _ _ _ _ (heap_alloc2_old w _ _)]; rfl)
  have P0_0 : Hid (((w.alloc (.cells #[.slice A0 xs0_0.length c0, .slice A1 xs0_1.length c1, .int .i64 n0_2, .bool n0_3] 25)).alloc (.cells #[.int .i64 p0, .int .i64 p1, .int .i64 p2, .int .i64 p3] 53)).cell? ⟨w.heap.size + 1, 0, none⟩ = some (.int .i64 p0)) := Lib.hid (by rw [cell_of_row _ _ _ _ _ _ (heap_alloc2_new w _ _)]; rfl)
  have P1_0 : Hid (((w.alloc (.cells #[.slice A0 xs0_0.length c0, .slice A1 xs0_1.length c1, .int .i64 n0_2, .bool n0_3] 25)).alloc (.cells #[.int .i64 p0, .int .i64 p1, .int .i64 p2, .int .i64 p3] 53)).cell? ⟨w.heap.size + 1, 1, none⟩ = some (.int .i64 p1)) := Lib.hid (by rw [cell_of_row _ _ _ _ _ _ (heap_alloc2_new w _ _)]; rfl)
  have P2_0 : Hid (((w.alloc (.cells #[.slice A0 xs0_0.length c0, .slice A1 xs0_1.length c1, .int .i64 n0_2, .bool n0_3] 25)).alloc (.cells #[.int .i64 p0, .int .i64 p1, .int .i64 p2, .int .i64 p3] 53)).cell? ⟨w.heap.size + 1, 2, none⟩ = some (.int .i64 p2)) := Lib.hid (by rw [cell_of_row _ _ _ _ _ _ (heap_alloc2_new w _ _)]; rfl)
  have P3_0 : Hid (((w.alloc (.cells #[.slice A0 xs0_0.length c0, .slice A1 xs0_1.length c1, .int .i64 n0_2, .bool n0_3] 25)).alloc (.cells #[.int .i64 p0, .int .i64 p1, .int .i64 p2, .int .i64 p3] 53)).cell? ⟨w.heap.size + 1, 3, none⟩ = some (.int .i64 p3)) := Lib.hid (by rw [cell_of_row _ _ _ _ _ _ (heap_alloc2_new w _ _)]; rfl)
  go_enter Try.func15, Try.ntmps15
  go_wp2_with fail
  generalize ((w.alloc (.cells #[.slice A0 xs0_0.length c0, .slice A1 xs0_1.length c1, .int .i64 n0_2, .bool n0_3] 25)).alloc (.cells #[.int .i64 p0, .int .i64 p1, .int .i64 p2, .int .i64 p3] 53)) = w0 at *
  refine (szDisk_any (Ha.out.at (Nat.le_refl _) HB0.out) (Hb.out.at (Nat.le_refl _) HB0.out) (Nat.le_refl _) (1048576) (by omega) (by omega)).mono ?_
  rintro e w1 ⟨l0, rfl, hl0, hL0, hp0, g⟩
  have Pz := Lib.hid hp0; have G1 := Lib.hid g; have SZ1 : Hid (w0.heap.size ≤ w1.heap.size) := Lib.hid g.size; clear hp0 g
  have F0_1 : Hid (w1.cell? ⟨w.heap.size, 0, none⟩ = some (.slice A0 xs0_0.length c0)) := Lib.hid (oldcell G1.out F0_0.out)
  have F1_1 : Hid (w1.cell? ⟨w.heap.size, 1, none⟩ = some (.slice A1 xs0_1.length c1)) := Lib.hid (oldcell G1.out F1_0.out)
  have F2_1 : Hid (w1.cell? ⟨w.heap.size, 2, none⟩ = some (.int .i64 n0_2)) := Lib.hid (oldcell G1.out F2_0.out)
  have F3_1 : Hid (w1.cell? ⟨w.heap.size, 3, none⟩ = some (.bool n0_3)) := Lib.hid (oldcell G1.out F3_0.out)
  have P0_1 : Hid (w1.cell? ⟨w.heap.size + 1, 0, none⟩ = some (.int .i64 p0)) := Lib.hid (oldcell G1.out P0_0.out)
  have P1_1 : Hid (w1.cell? ⟨w.heap.size + 1, 1, none⟩ = some (.int .i64 p1)) := Lib.hid (oldcell G1.out P1_0.out)
  have P2_1 : Hid (w1.cell? ⟨w.heap.size + 1, 2, none⟩ = some (.int .i64 p2)) := Lib.hid (oldcell G1.out P2_0.out)
  have P3_1 : Hid (w1.cell? ⟨w.heap.size + 1, 3, none⟩ = some (.int .i64 p3)) := Lib.hid (oldcell G1.out P3_0.out)
  have HB1 : Hid (Below w.heap.size w w1) := Lib.hid (HB0.out.trans (G1.out.mono HB0.out.size))
  by_cases neg0 : l0 < 0
  · skip
    have qF0 := F0_1.out
    have qF1 := F1_1.out
    have qF2 := F2_1.out
    have qF3 := F3_1.out
    have qP0 := P0_1.out
    have qP1 := P1_1.out
    have qP2 := P2_1.out
    have qP3 := P3_1.out
    go_wp2_with fail
    go_ret
    exact ⟨rfl, HB1.out⟩
  have SM := Lib.hid (Pz.out (by omega))
  have LD : Hid (D.length ≤ 1048577) := Lib.hid (by have := LE.out; have := SM.out.1.1; omega)
  have LM : Hid (M.length ≤ 1048577) := Lib.hid (by have := LE.out; have := SM.out.2.1; omega)
  have qF0 := F0_1.out
  have qF1 := F1_1.out
  have qF2 := F2_1.out
  have qF3 := F3_1.out
  have qP0 := P0_1.out
  have qP1 := P1_1.out
  have qP2 := P2_1.out
  have qP3 := P3_1.out
  go_wp2
  clear qF0 qF1 qF2 qF3 qP0 qP1 qP2 qP3
  have HSZ : Hid (∀ W, Below w1.heap.size w1 W → W.cell? ⟨w.heap.size, 0, none⟩ = some (.slice A0 xs0_0.length c0) ∧ W.cell? ⟨w.heap.size, 1, none⟩ = some (.slice A1 xs0_1.length c1) ∧ W.cell? ⟨w.heap.size, 2, none⟩ = some (.int .i64 n0_2) ∧ W.cell? ⟨w.heap.size, 3, none⟩ = some (.bool n0_3) ∧ W.cell? ⟨w.heap.size + 1, 0, none⟩ = some (.int .i64 p0) ∧ W.cell? ⟨w.heap.size + 1, 1, none⟩ = some (.int .i64 p1) ∧ W.cell? ⟨w.heap.size + 1, 2, none⟩ = some (.int .i64 p2) ∧ W.cell? ⟨w.heap.size + 1, 3, none⟩ = some (.int .i64 p3)) := Lib.hid (fun W hW => ⟨oldcell hW F0_1.out, oldcell hW F1_1.out, oldcell hW F2_1.out, oldcell hW F3_1.out, oldcell hW P0_1.out, oldcell hW P1_1.out, oldcell hW P2_1.out, oldcell hW P3_1.out⟩)
  have HDrZ : Hid (Below w1.heap.size w1 w1.drew) := Lib.hid (Below.refl _ _).drew
  apply wp_drawn w1 30 D M fz fo
  · refine wp_region_held_drew (S := fun W => W.cell? ⟨w.heap.size, 0, none⟩ = some (.slice A0 xs0_0.length c0) ∧ W.cell? ⟨w.heap.size, 1, none⟩ = some (.slice A1 xs0_1.length c1) ∧ W.cell? ⟨w.heap.size, 2, none⟩ = some (.int .i64 n0_2) ∧ W.cell? ⟨w.heap.size, 3, none⟩ = some (.bool n0_3) ∧ W.cell? ⟨w.heap.size + 1, 0, none⟩ = some (.int .i64 p0) ∧ W.cell? ⟨w.heap.size + 1, 1, none⟩ = some (.int .i64 p1) ∧ W.cell? ⟨w.heap.size + 1, 2, none⟩ = some (.int .i64 p2) ∧ W.cell? ⟨w.heap.size + 1, 3, none⟩ = some (.int .i64 p3)) (by kernel_rfl) (HSZ.out _ HDrZ.out) (fun hHeld => ?_)
    refine held_yes 0 (some 22) rfl rfl (by kernel_rfl) (by kernel_rfl) (by kernel_rfl) (fun _ _ _ h => h) (by kernel_rfl) hHeld (v := ?_) (fun wz hSw => ?_) ?_
    rotate_left 1
    · (try dsimp only at hSw); go_simp; (try with_reducible rfl)
    try simp only [Act.put, List.setIfInBounds_toArray, List.set_cons_zero, List.set_cons_succ]
    refine held_yes 2 (some 24) rfl rfl (by kernel_rfl) (by kernel_rfl) (by kernel_rfl) (fun _ _ _ h => h) (by kernel_rfl) hHeld (v := ?_) (fun wz hSw => ?_) ?_
    rotate_left 1
    · (try dsimp only at hSw); go_simp; (try with_reducible rfl)
    try simp only [Act.put, List.setIfInBounds_toArray, List.set_cons_zero, List.set_cons_succ]
    refine wpAnyH_ready (rs := [1, 8]) (by kernel_rfl) (by simp) ?_
    refine AllReadyH.cons rfl (fun K hK => ?_) (AllReadyH.cons rfl (fun K hK => ?_) AllReadyH.nil)
    · skip
      go_simp
      go_at_call 21
      go_fit (toDisk_any (Ha.out.at (Nat.le_refl _) (HB1.out.trans ((HDrZ.out).mono HB1.out.size))) (Hb.out.at (Nat.le_refl _) (HB1.out.trans ((HDrZ.out).mono HB1.out.size))) (Nat.le_refl _) SM.out.1 SM.out.2)
      rintro e u1Z ⟨T0, T1, rfl, ra, rb, -, g⟩
      have RT0 := Lib.hid ra; have RT1 := Lib.hid rb; clear ra rb
      have kb1 : Below w1.heap.size w1 u1Z := (HDrZ.out).trans (g.mono (HDrZ.out).size)
      have g1 := g; clear g
      refine hK.out _ _ (HSZ.out _ kb1) (fun hHeld => ?_)
      clear hK K
      try simp only [Act.put, List.setIfInBounds_toArray, List.set_cons_zero, List.set_cons_succ]
      refine wpAnyH_ready (rs := [3, 8]) (by kernel_rfl) (by simp) ?_
      refine AllReadyH.cons rfl (fun K hK => ?_) (AllReadyH.cons rfl (fun K hK => ?_) AllReadyH.nil)
      · skip
        go_simp
        go_at_call 44
        go_fit (toSuper_any p0 p1 p2 p3 _)
        rintro e u2Z ⟨rfl, g⟩
        skip
        have kb2 : Below w1.heap.size w1 u2Z := (kb1).trans (g.mono (kb1).size)
        have g2 := g; clear g
        refine hK.out _ _ (HSZ.out _ kb2) (fun hHeld => ?_)
        clear hK K
        try simp only [Act.put, List.setIfInBounds_toArray, List.set_cons_zero, List.set_cons_succ]
        refine wpAnyH_ready (rs := [4, 8]) (by kernel_rfl) (by simp) ?_
        refine AllReadyH.cons rfl (fun K hK => ?_) (AllReadyH.cons rfl (fun K hK => ?_) AllReadyH.nil)
        · skip
          go_simp
          have kT : Below u1Z.heap.size u1Z (u2Z) := g2
          go_at_call 53
          go_fit (S0.out _ _ _ (OT.rit (own_bel RT0.out kT) IDa.out) (OU.riu (own_bel RT1.out kT) IMa.out))
          rintro e u3Z ⟨Z0, Z1, d0, d1, rfl, oa, ob, hap, g⟩
          skip
          have kb3 : Below w1.heap.size w1 u3Z := (kb2).trans (g.mono (kb2).size)
          have g3 := g; clear g
          refine hK.out _ _ (HSZ.out _ kb3) (fun hHeld => ?_)
          clear hK K
          try simp only [Act.put, List.setIfInBounds_toArray, List.set_cons_zero, List.set_cons_succ]
          refine held_yes 5 (some 21) rfl rfl (by kernel_rfl) (by kernel_rfl) (by kernel_rfl) (fun _ _ _ h => h) (by kernel_rfl) hHeld (v := ?_) (fun wz hSw => ?_) ?_
          rotate_left 1
          · (try dsimp only at hSw); go_simp; (try with_reducible rfl)
          try simp only [Act.put, List.setIfInBounds_toArray, List.set_cons_zero, List.set_cons_succ]
          refine held_yes 6 (some 27) rfl rfl (by kernel_rfl) (by kernel_rfl) (by kernel_rfl) (fun _ _ _ h => h) (by kernel_rfl) hHeld (v := ?_) (fun wz hSw => ?_) ?_
          rotate_left 1
          · (try dsimp only at hSw); go_simp; (try with_reducible rfl)
          try simp only [Act.put, List.setIfInBounds_toArray, List.set_cons_zero, List.set_cons_succ]
          refine held_yes 7 (some 28) rfl rfl (by kernel_rfl) (by kernel_rfl) (by kernel_rfl) (fun _ _ _ h => h) (by kernel_rfl) hHeld (v := ?_) (fun wz hSw => ?_) ?_
          rotate_left 1
          · (try dsimp only at hSw); go_simp; (try with_reducible rfl)
          try simp only [Act.put, List.setIfInBounds_toArray, List.set_cons_zero, List.set_cons_succ]
          refine wpAnyH_ready (rs := [8]) (by kernel_rfl) (by simp) ?_
          refine AllReadyH.cons rfl (fun K hK => ?_) AllReadyH.nil
          go_simp
          have kbA := (kb3).alloc (kb3).size (.cells #[.slice none 0 0, .slice none 0 0, .int .i64 0, .bool false] 30)
          have ryA : Four (u3Z.alloc (.cells #[.slice none 0 0, .slice none 0 0, .int .i64 0, .bool false] 30)) u3Z.heap.size 30 (.slice none 0 0) (.slice none 0 0) (.int .i64 0) (.bool false) := Four.new _ _ _ _ _ _
          refine hK.out _ _ (HSZ.out _ kbA) (fun hHeld => ?_)
          clear hK K
          try simp only [Act.put, List.setIfInBounds_toArray, List.set_cons_zero, List.set_cons_succ]
          have y0 := (ryA).c0; have y1 := (ryA).c1; have y2 := (ryA).c2; have y3 := (ryA).c3; have y4 := (ryA).f 0; have y5 := (ryA).f 1; have y6 := (ryA).f 2; have y7 := (ryA).f 3
          refine wpAnyH_ready (rs := [9]) (by kernel_rfl) (by simp) ?_
          refine AllReadyH.cons rfl (fun K hK => ?_) AllReadyH.nil
          go_simp
          have F := finC (t := 30) (fz := fz) (off := fo) kb3 oa ob hap (kb2.size)
          refine hK.out _ _ (HSZ.out _ F.2.2.2.2.1) (fun hHeld => ?_)
          clear hK K y0 y1 y2 y3 y4 y5 y6 y7
          try simp only [Act.put, List.setIfInBounds_toArray, List.set_cons_zero, List.set_cons_succ]
          refine held_yes 10 (some 7) rfl rfl (by kernel_rfl) (by kernel_rfl) (by kernel_rfl) (fun _ _ _ h => h) (by kernel_rfl) hHeld (v := ?_) (fun wz hSw => ?_) ?_
          rotate_left 1
          · (try dsimp only at hSw); go_simp; (try with_reducible rfl)
          try simp only [Act.put, List.setIfInBounds_toArray, List.set_cons_zero, List.set_cons_succ]
          refine wpAnyH_done (by kernel_rfl) ?_ _
          revert F
          generalize u3Z.heap.size = b6
          intro F
          exact ⟨T0, T1, Z0, Z1, d0, d1, b6, _, _, rfl, F⟩
        · skip
          go_simp
          have kbA := (kb2).alloc (kb2).size (.cells #[.slice none 0 0, .slice none 0 0, .int .i64 0, .bool false] 30)
          have ryA : Four (u2Z.alloc (.cells #[.slice none 0 0, .slice none 0 0, .int .i64 0, .bool false] 30)) u2Z.heap.size 30 (.slice none 0 0) (.slice none 0 0) (.int .i64 0) (.bool false) := Four.new _ _ _ _ _ _
          refine hK.out _ _ (HSZ.out _ kbA) (fun hHeld => ?_)
          clear hK K
          try simp only [Act.put, List.setIfInBounds_toArray, List.set_cons_zero, List.set_cons_succ]
          refine wpAnyH_ready (rs := [4]) (by kernel_rfl) (by simp) ?_
          refine AllReadyH.cons rfl (fun K hK => ?_) AllReadyH.nil
          go_simp
          have kT : Below u1Z.heap.size u1Z (u2Z.alloc (.cells #[.slice none 0 0, .slice none 0 0, .int .i64 0, .bool false] 30)) := g2.alloc g2.size _
          go_at_call 53
          go_fit (S0.out _ _ _ (OT.rit (own_bel RT0.out kT) IDa.out) (OU.riu (own_bel RT1.out kT) IMa.out))
          rintro e u3Z ⟨Z0, Z1, d0, d1, rfl, oa, ob, hap, g⟩
          skip
          have kb3 : Below w1.heap.size w1 u3Z := (kbA).trans (g.mono (kbA).size)
          have ry3 := (ryA).keep g
          have g3 := g; clear g
          refine hK.out _ _ (HSZ.out _ kb3) (fun hHeld => ?_)
          clear hK K
          try simp only [Act.put, List.setIfInBounds_toArray, List.set_cons_zero, List.set_cons_succ]
          refine held_yes 5 (some 21) rfl rfl (by kernel_rfl) (by kernel_rfl) (by kernel_rfl) (fun _ _ _ h => h) (by kernel_rfl) hHeld (v := ?_) (fun wz hSw => ?_) ?_
          rotate_left 1
          · (try dsimp only at hSw); go_simp; (try with_reducible rfl)
          try simp only [Act.put, List.setIfInBounds_toArray, List.set_cons_zero, List.set_cons_succ]
          refine held_yes 6 (some 27) rfl rfl (by kernel_rfl) (by kernel_rfl) (by kernel_rfl) (fun _ _ _ h => h) (by kernel_rfl) hHeld (v := ?_) (fun wz hSw => ?_) ?_
          rotate_left 1
          · (try dsimp only at hSw); go_simp; (try with_reducible rfl)
          try simp only [Act.put, List.setIfInBounds_toArray, List.set_cons_zero, List.set_cons_succ]
          refine held_yes 7 (some 28) rfl rfl (by kernel_rfl) (by kernel_rfl) (by kernel_rfl) (fun _ _ _ h => h) (by kernel_rfl) hHeld (v := ?_) (fun wz hSw => ?_) ?_
          rotate_left 1
          · (try dsimp only at hSw); go_simp; (try with_reducible rfl)
          try simp only [Act.put, List.setIfInBounds_toArray, List.set_cons_zero, List.set_cons_succ]
          have y0 := (ry3).c0; have y1 := (ry3).c1; have y2 := (ry3).c2; have y3 := (ry3).c3; have y4 := (ry3).f 0; have y5 := (ry3).f 1; have y6 := (ry3).f 2; have y7 := (ry3).f 3
          refine wpAnyH_ready (rs := [9]) (by kernel_rfl) (by simp) ?_
          refine AllReadyH.cons rfl (fun K hK => ?_) AllReadyH.nil
          go_simp
          have F := finB (fz := fz) (off := fo) (lo := (u2Z.alloc (.cells #[.slice none 0 0, .slice none 0 0, .int .i64 0, .bool false] 30)).heap.size) (kb3) (ry3) oa ob hap ((kb2.alloc kb2.size (.cells #[.slice none 0 0, .slice none 0 0, .int .i64 0, .bool false] 30)).size) (kb2.size) (by simp)
          refine hK.out _ _ (HSZ.out _ F.2.2.2.2.1) (fun hHeld => ?_)
          clear hK K y0 y1 y2 y3 y4 y5 y6 y7
          try simp only [Act.put, List.setIfInBounds_toArray, List.set_cons_zero, List.set_cons_succ]
          refine held_yes 10 (some 7) rfl rfl (by kernel_rfl) (by kernel_rfl) (by kernel_rfl) (fun _ _ _ h => h) (by kernel_rfl) hHeld (v := ?_) (fun wz hSw => ?_) ?_
          rotate_left 1
          · (try dsimp only at hSw); go_simp; (try with_reducible rfl)
          try simp only [Act.put, List.setIfInBounds_toArray, List.set_cons_zero, List.set_cons_succ]
          refine wpAnyH_done (by kernel_rfl) ?_ _
          revert F
          generalize u2Z.heap.size = b6
          intro F
          exact ⟨T0, T1, Z0, Z1, d0, d1, b6, _, _, rfl, F⟩
      · skip
        go_simp
        have kbA := (kb1).alloc (kb1).size (.cells #[.slice none 0 0, .slice none 0 0, .int .i64 0, .bool false] 30)
        have ryA : Four (u1Z.alloc (.cells #[.slice none 0 0, .slice none 0 0, .int .i64 0, .bool false] 30)) u1Z.heap.size 30 (.slice none 0 0) (.slice none 0 0) (.int .i64 0) (.bool false) := Four.new _ _ _ _ _ _
        refine hK.out _ _ (HSZ.out _ kbA) (fun hHeld => ?_)
        clear hK K
        try simp only [Act.put, List.setIfInBounds_toArray, List.set_cons_zero, List.set_cons_succ]
        refine wpAnyH_ready (rs := [3]) (by kernel_rfl) (by simp) ?_
        refine AllReadyH.cons rfl (fun K hK => ?_) AllReadyH.nil
        go_simp
        go_at_call 44
        go_fit (toSuper_any p0 p1 p2 p3 _)
        rintro e u2Z ⟨rfl, g⟩
        skip
        have kb2 : Below w1.heap.size w1 u2Z := (kbA).trans (g.mono (kbA).size)
        have ry2 := (ryA).keep g
        have g2 := g; clear g
        refine hK.out _ _ (HSZ.out _ kb2) (fun hHeld => ?_)
        clear hK K
        try simp only [Act.put, List.setIfInBounds_toArray, List.set_cons_zero, List.set_cons_succ]
        refine wpAnyH_ready (rs := [4]) (by kernel_rfl) (by simp) ?_
        refine AllReadyH.cons rfl (fun K hK => ?_) AllReadyH.nil
        go_simp
        have kT : Below u1Z.heap.size u1Z (u2Z) := ((Below.refl _ _).alloc (Nat.le_refl _) _).trans (g2.mono (by simp))
        go_at_call 53
        go_fit (S0.out _ _ _ (OT.rit (own_bel RT0.out kT) IDa.out) (OU.riu (own_bel RT1.out kT) IMa.out))
        rintro e u3Z ⟨Z0, Z1, d0, d1, rfl, oa, ob, hap, g⟩
        skip
        have kb3 : Below w1.heap.size w1 u3Z := (kb2).trans (g.mono (kb2).size)
        have ry3 := (ry2).keep g
        have g3 := g; clear g
        refine hK.out _ _ (HSZ.out _ kb3) (fun hHeld => ?_)
        clear hK K
        try simp only [Act.put, List.setIfInBounds_toArray, List.set_cons_zero, List.set_cons_succ]
        refine held_yes 5 (some 21) rfl rfl (by kernel_rfl) (by kernel_rfl) (by kernel_rfl) (fun _ _ _ h => h) (by kernel_rfl) hHeld (v := ?_) (fun wz hSw => ?_) ?_
        rotate_left 1
        · (try dsimp only at hSw); go_simp; (try with_reducible rfl)
        try simp only [Act.put, List.setIfInBounds_toArray, List.set_cons_zero, List.set_cons_succ]
        refine held_yes 6 (some 27) rfl rfl (by kernel_rfl) (by kernel_rfl) (by kernel_rfl) (fun _ _ _ h => h) (by kernel_rfl) hHeld (v := ?_) (fun wz hSw => ?_) ?_
        rotate_left 1
        · (try dsimp only at hSw); go_simp; (try with_reducible rfl)
        try simp only [Act.put, List.setIfInBounds_toArray, List.set_cons_zero, List.set_cons_succ]
        refine held_yes 7 (some 28) rfl rfl (by kernel_rfl) (by kernel_rfl) (by kernel_rfl) (fun _ _ _ h => h) (by kernel_rfl) hHeld (v := ?_) (fun wz hSw => ?_) ?_
        rotate_left 1
        · (try dsimp only at hSw); go_simp; (try with_reducible rfl)
        try simp only [Act.put, List.setIfInBounds_toArray, List.set_cons_zero, List.set_cons_succ]
        have y0 := (ry3).c0; have y1 := (ry3).c1; have y2 := (ry3).c2; have y3 := (ry3).c3; have y4 := (ry3).f 0; have y5 := (ry3).f 1; have y6 := (ry3).f 2; have y7 := (ry3).f 3
        refine wpAnyH_ready (rs := [9]) (by kernel_rfl) (by simp) ?_
        refine AllReadyH.cons rfl (fun K hK => ?_) AllReadyH.nil
        go_simp
        have F := finB (fz := fz) (off := fo) (lo := u2Z.heap.size) (kb3) (ry3) oa ob hap (kb2.size) (kb1.size) (by have := ry2.lt; omega)
        refine hK.out _ _ (HSZ.out _ F.2.2.2.2.1) (fun hHeld => ?_)
        clear hK K y0 y1 y2 y3 y4 y5 y6 y7
        try simp only [Act.put, List.setIfInBounds_toArray, List.set_cons_zero, List.set_cons_succ]
        refine held_yes 10 (some 7) rfl rfl (by kernel_rfl) (by kernel_rfl) (by kernel_rfl) (fun _ _ _ h => h) (by kernel_rfl) hHeld (v := ?_) (fun wz hSw => ?_) ?_
        rotate_left 1
        · (try dsimp only at hSw); go_simp; (try with_reducible rfl)
        try simp only [Act.put, List.setIfInBounds_toArray, List.set_cons_zero, List.set_cons_succ]
        refine wpAnyH_done (by kernel_rfl) ?_ _
        revert F
        generalize u1Z.heap.size = b6
        intro F
        exact ⟨T0, T1, Z0, Z1, d0, d1, b6, _, _, rfl, F⟩
    · skip
      go_simp
      have kbA := (HDrZ.out).alloc (HDrZ.out).size (.cells #[.slice none 0 0, .slice none 0 0, .int .i64 0, .bool false] 30)
      have ryA : Four (w1.drew.alloc (.cells #[.slice none 0 0, .slice none 0 0, .int .i64 0, .bool false] 30)) w1.heap.size 30 (.slice none 0 0) (.slice none 0 0) (.int .i64 0) (.bool false) := Four.new _ _ _ _ _ _
      refine hK.out _ _ (HSZ.out _ kbA) (fun hHeld => ?_)
      clear hK K
      try simp only [Act.put, List.setIfInBounds_toArray, List.set_cons_zero, List.set_cons_succ]
      refine wpAnyH_ready (rs := [1]) (by kernel_rfl) (by simp) ?_
      refine AllReadyH.cons rfl (fun K hK => ?_) AllReadyH.nil
      go_simp
      go_at_call 21
      go_fit (toDisk_any (Ha.out.at (Nat.le_refl _) (HB1.out.trans ((kbA).mono HB1.out.size))) (Hb.out.at (Nat.le_refl _) (HB1.out.trans ((kbA).mono HB1.out.size))) (Nat.le_refl _) SM.out.1 SM.out.2)
      rintro e u1Z ⟨T0, T1, rfl, ra, rb, -, g⟩
      have RT0 := Lib.hid ra; have RT1 := Lib.hid rb; clear ra rb
      have kb1 : Below w1.heap.size w1 u1Z := (kbA).trans (g.mono (kbA).size)
      have ry1 := (ryA).keep g
      have g1 := g; clear g
      refine hK.out _ _ (HSZ.out _ kb1) (fun hHeld => ?_)
      clear hK K
      try simp only [Act.put, List.setIfInBounds_toArray, List.set_cons_zero, List.set_cons_succ]
      refine wpAnyH_ready (rs := [3]) (by kernel_rfl) (by simp) ?_
      refine AllReadyH.cons rfl (fun K hK => ?_) AllReadyH.nil
      go_simp
      go_at_call 44
      go_fit (toSuper_any p0 p1 p2 p3 _)
      rintro e u2Z ⟨rfl, g⟩
      skip
      have kb2 : Below w1.heap.size w1 u2Z := (kb1).trans (g.mono (kb1).size)
      have ry2 := (ry1).keep g
      have g2 := g; clear g
      refine hK.out _ _ (HSZ.out _ kb2) (fun hHeld => ?_)
      clear hK K
      try simp only [Act.put, List.setIfInBounds_toArray, List.set_cons_zero, List.set_cons_succ]
      refine wpAnyH_ready (rs := [4]) (by kernel_rfl) (by simp) ?_
      refine AllReadyH.cons rfl (fun K hK => ?_) AllReadyH.nil
      go_simp
      have kT : Below u1Z.heap.size u1Z (u2Z) := g2
      go_at_call 53
      go_fit (S0.out _ _ _ (OT.rit (own_bel RT0.out kT) IDa.out) (OU.riu (own_bel RT1.out kT) IMa.out))
      rintro e u3Z ⟨Z0, Z1, d0, d1, rfl, oa, ob, hap, g⟩
      skip
      have kb3 : Below w1.heap.size w1 u3Z := (kb2).trans (g.mono (kb2).size)
      have ry3 := (ry2).keep g
      have g3 := g; clear g
      refine hK.out _ _ (HSZ.out _ kb3) (fun hHeld => ?_)
      clear hK K
      try simp only [Act.put, List.setIfInBounds_toArray, List.set_cons_zero, List.set_cons_succ]
      refine held_yes 5 (some 21) rfl rfl (by kernel_rfl) (by kernel_rfl) (by kernel_rfl) (fun _ _ _ h => h) (by kernel_rfl) hHeld (v := ?_) (fun wz hSw => ?_) ?_
      rotate_left 1
      · (try dsimp only at hSw); go_simp; (try with_reducible rfl)
      try simp only [Act.put, List.setIfInBounds_toArray, List.set_cons_zero, List.set_cons_succ]
      refine held_yes 6 (some 27) rfl rfl (by kernel_rfl) (by kernel_rfl) (by kernel_rfl) (fun _ _ _ h => h) (by kernel_rfl) hHeld (v := ?_) (fun wz hSw => ?_) ?_
      rotate_left 1
      · (try dsimp only at hSw); go_simp; (try with_reducible rfl)
      try simp only [Act.put, List.setIfInBounds_toArray, List.set_cons_zero, List.set_cons_succ]
      refine held_yes 7 (some 28) rfl rfl (by kernel_rfl) (by kernel_rfl) (by kernel_rfl) (fun _ _ _ h => h) (by kernel_rfl) hHeld (v := ?_) (fun wz hSw => ?_) ?_
      rotate_left 1
      · (try dsimp only at hSw); go_simp; (try with_reducible rfl)
      try simp only [Act.put, List.setIfInBounds_toArray, List.set_cons_zero, List.set_cons_succ]
      have y0 := (ry3).c0; have y1 := (ry3).c1; have y2 := (ry3).c2; have y3 := (ry3).c3; have y4 := (ry3).f 0; have y5 := (ry3).f 1; have y6 := (ry3).f 2; have y7 := (ry3).f 3
      refine wpAnyH_ready (rs := [9]) (by kernel_rfl) (by simp) ?_
      refine AllReadyH.cons rfl (fun K hK => ?_) AllReadyH.nil
      go_simp
      have F := finB (fz := fz) (off := fo) (lo := u2Z.heap.size) (kb3) (ry3) oa ob hap (kb2.size) (Nat.le_refl _) (by have := ry2.lt; omega)
      refine hK.out _ _ (HSZ.out _ F.2.2.2.2.1) (fun hHeld => ?_)
      clear hK K y0 y1 y2 y3 y4 y5 y6 y7
      try simp only [Act.put, List.setIfInBounds_toArray, List.set_cons_zero, List.set_cons_succ]
      refine held_yes 10 (some 7) rfl rfl (by kernel_rfl) (by kernel_rfl) (by kernel_rfl) (fun _ _ _ h => h) (by kernel_rfl) hHeld (v := ?_) (fun wz hSw => ?_) ?_
      rotate_left 1
      · (try dsimp only at hSw); go_simp; (try with_reducible rfl)
      try simp only [Act.put, List.setIfInBounds_toArray, List.set_cons_zero, List.set_cons_succ]
      refine wpAnyH_done (by kernel_rfl) ?_ _
      revert F
      generalize w1.heap.size = b6
      intro F
      exact ⟨T0, T1, Z0, Z1, d0, d1, b6, _, _, rfl, F⟩
  rintro a' w2 ⟨T0Z, T1Z, ZA0, ZA1, Zc0, Zc1, bZ, loZ, hiZ, rfl, F⟩
  have SZ2 : Hid (w1.heap.size ≤ w2.heap.size ∧ (w1.heap.size ≤ bZ ∧ bZ < w2.heap.size ∧ w1.heap.size ≤ loZ ∧ hiZ ≤ w2.heap.size ∧ (bZ < loZ ∨ hiZ ≤ bZ))) := Lib.hid ⟨F.2.2.2.2.1.size, F.2.2.2.2.2.1⟩
  have G2 := Lib.hid F.2.2.2.2.1
  have F0_2 : Hid (w2.cell? ⟨w.heap.size, 0, none⟩ = some (.slice A0 xs0_0.length c0)) := Lib.hid (oldcell G2.out F0_1.out)
  have F1_2 : Hid (w2.cell? ⟨w.heap.size, 1, none⟩ = some (.slice A1 xs0_1.length c1)) := Lib.hid (oldcell G2.out F1_1.out)
  have F2_2 : Hid (w2.cell? ⟨w.heap.size, 2, none⟩ = some (.int .i64 n0_2)) := Lib.hid (oldcell G2.out F2_1.out)
  have F3_2 : Hid (w2.cell? ⟨w.heap.size, 3, none⟩ = some (.bool n0_3)) := Lib.hid (oldcell G2.out F3_1.out)
  have P0_2 : Hid (w2.cell? ⟨w.heap.size + 1, 0, none⟩ = some (.int .i64 p0)) := Lib.hid (oldcell G2.out P0_1.out)
  have P1_2 : Hid (w2.cell? ⟨w.heap.size + 1, 1, none⟩ = some (.int .i64 p1)) := Lib.hid (oldcell G2.out P1_1.out)
  have P2_2 : Hid (w2.cell? ⟨w.heap.size + 1, 2, none⟩ = some (.int .i64 p2)) := Lib.hid (oldcell G2.out P2_1.out)
  have P3_2 : Hid (w2.cell? ⟨w.heap.size + 1, 3, none⟩ = some (.int .i64 p3)) := Lib.hid (oldcell G2.out P3_1.out)
  have HB2 : Hid (Below w.heap.size w w2) := Lib.hid (HB1.out.trans (G2.out.mono HB1.out.size))
  have OZ0_2 : Hid (OT w2 loZ (.slice ZA0 D.length Zc0) D) := Lib.hid F.2.1
  have IZ0 : Hid (Wi loZ hiZ (.slice ZA0 D.length Zc0)) := Lib.hid F.2.2.2.2.2.2.1
  have OZ1_2 : Hid (OU w2 loZ (.slice ZA1 M.length Zc1) M) := Lib.hid F.2.2.1
  have IZ1 : Hid (Wi loZ hiZ (.slice ZA1 M.length Zc1)) := Lib.hid F.2.2.2.2.2.2.2
  have XZ := Lib.hid F.2.2.2.1
  have Q0_2 : Hid (w2.cell? ⟨bZ, 0, none⟩ = some (.slice ZA0 D.length Zc0)) := Lib.hid F.1.c0
  have Q1_2 : Hid (w2.cell? ⟨bZ, 1, none⟩ = some (.slice ZA1 M.length Zc1)) := Lib.hid F.1.c1
  have Q2_2 : Hid (w2.cell? ⟨bZ, 2, none⟩ = some (.int .i64 fz)) := Lib.hid F.1.c2
  have Q3_2 : Hid (w2.cell? ⟨bZ, 3, none⟩ = some (.bool fo)) := Lib.hid F.1.c3
  clear F
  try simp only [Exit.then]
  have qF0 := F0_2.out
  have qF1 := F1_2.out
  have qF2 := F2_2.out
  have qF3 := F3_2.out
  have qP0 := P0_2.out
  have qP1 := P1_2.out
  have qP2 := P2_2.out
  have qP3 := P3_2.out
  have qQ0 := Q0_2.out
  have qQ1 := Q1_2.out
  have qQ2 := Q2_2.out
  have qQ3 := Q3_2.out
  go_wp2_with fail
  clear qF0 qF1 qF2 qF3 qP0 qP1 qP2 qP3 qQ0 qQ1 qQ2 qQ3
  refine (toDisk_any (Ha.out.at (Nat.le_refl _) HB2.out) (Hb.out.at (Nat.le_refl _) HB2.out) (Nat.le_refl _) SM.out.1 SM.out.2).mono ?_
  rintro e w3 ⟨VA0, VA1, rfl, oa, ob, hap, g⟩
  have G3 := Lib.hid g; have SZ3 : Hid (w2.heap.size ≤ w3.heap.size) := Lib.hid g.size; clear g
  have F0_3 : Hid (w3.cell? ⟨w.heap.size, 0, none⟩ = some (.slice A0 xs0_0.length c0)) := Lib.hid (oldcell G3.out F0_2.out)
  have F1_3 : Hid (w3.cell? ⟨w.heap.size, 1, none⟩ = some (.slice A1 xs0_1.length c1)) := Lib.hid (oldcell G3.out F1_2.out)
  have F2_3 : Hid (w3.cell? ⟨w.heap.size, 2, none⟩ = some (.int .i64 n0_2)) := Lib.hid (oldcell G3.out F2_2.out)
  have F3_3 : Hid (w3.cell? ⟨w.heap.size, 3, none⟩ = some (.bool n0_3)) := Lib.hid (oldcell G3.out F3_2.out)
  have P0_3 : Hid (w3.cell? ⟨w.heap.size + 1, 0, none⟩ = some (.int .i64 p0)) := Lib.hid (oldcell G3.out P0_2.out)
  have P1_3 : Hid (w3.cell? ⟨w.heap.size + 1, 1, none⟩ = some (.int .i64 p1)) := Lib.hid (oldcell G3.out P1_2.out)
  have P2_3 : Hid (w3.cell? ⟨w.heap.size + 1, 2, none⟩ = some (.int .i64 p2)) := Lib.hid (oldcell G3.out P2_2.out)
  have P3_3 : Hid (w3.cell? ⟨w.heap.size + 1, 3, none⟩ = some (.int .i64 p3)) := Lib.hid (oldcell G3.out P3_2.out)
  have OZ0_3 : Hid (OT w3 loZ (.slice ZA0 D.length Zc0) D) := Lib.hid (own_bel OZ0_2.out G3.out)
  have OZ1_3 : Hid (OU w3 loZ (.slice ZA1 M.length Zc1) M) := Lib.hid (own_bel OZ1_2.out G3.out)
  have Q0_3 : Hid (w3.cell? ⟨bZ, 0, none⟩ = some (.slice ZA0 D.length Zc0)) := Lib.hid (oldcell G3.out Q0_2.out)
  have Q1_3 : Hid (w3.cell? ⟨bZ, 1, none⟩ = some (.slice ZA1 M.length Zc1)) := Lib.hid (oldcell G3.out Q1_2.out)
  have Q2_3 : Hid (w3.cell? ⟨bZ, 2, none⟩ = some (.int .i64 fz)) := Lib.hid (oldcell G3.out Q2_2.out)
  have Q3_3 : Hid (w3.cell? ⟨bZ, 3, none⟩ = some (.bool fo)) := Lib.hid (oldcell G3.out Q3_2.out)
  have HB3 : Hid (Below w.heap.size w w3) := Lib.hid (HB2.out.trans (G3.out.mono HB2.out.size))
  have OV0_3 : Hid (OT w3 w2.heap.size (.slice VA0 xs0_0.length xs0_0.length) xs0_0) := Lib.hid oa; clear oa
  have OV1_3 : Hid (OU w3 w2.heap.size (.slice VA1 xs0_1.length xs0_1.length) xs0_1) := Lib.hid ob; clear ob
  have XV := Lib.hid hap; clear hap
  have IV0 := Lib.hid (own_wi OV0_3.out); have IV1 := Lib.hid (own_wi OV1_3.out)
  have G4 : Hid (Below w3.heap.size w3 (w3.alloc (.cells #[.slice VA0 xs0_0.length xs0_0.length, .slice VA1 xs0_1.length xs0_1.length, .int .i64 n0_2, .bool n0_3] 30))) := Lib.hid ((Below.refl _ _).alloc (Nat.le_refl _) _)
  have SZ4 : Hid (w3.heap.size + 1 ≤ (w3.alloc (.cells #[.slice VA0 xs0_0.length xs0_0.length, .slice VA1 xs0_1.length xs0_1.length, .int .i64 n0_2, .bool n0_3] 30)).heap.size) := Lib.hid (by simp)
  have F0_4 : Hid ((w3.alloc (.cells #[.slice VA0 xs0_0.length xs0_0.length, .slice VA1 xs0_1.length xs0_1.length, .int .i64 n0_2, .bool n0_3] 30)).cell? ⟨w.heap.size, 0, none⟩ = some (.slice A0 xs0_0.length c0)) := Lib.hid (oldcell G4.out F0_3.out)
  have F1_4 : Hid ((w3.alloc (.cells #[.slice VA0 xs0_0.length xs0_0.length, .slice VA1 xs0_1.length xs0_1.length, .int .i64 n0_2, .bool n0_3] 30)).cell? ⟨w.heap.size, 1, none⟩ = some (.slice A1 xs0_1.length c1)) := Lib.hid (oldcell G4.out F1_3.out)
  have F2_4 : Hid ((w3.alloc (.cells #[.slice VA0 xs0_0.length xs0_0.length, .slice VA1 xs0_1.length xs0_1.length, .int .i64 n0_2, .bool n0_3] 30)).cell? ⟨w.heap.size, 2, none⟩ = some (.int .i64 n0_2)) := Lib.hid (oldcell G4.out F2_3.out)
  have F3_4 : Hid ((w3.alloc (.cells #[.slice VA0 xs0_0.length xs0_0.length, .slice VA1 xs0_1.length xs0_1.length, .int .i64 n0_2, .bool n0_3] 30)).cell? ⟨w.heap.size, 3, none⟩ = some (.bool n0_3)) := Lib.hid (oldcell G4.out F3_3.out)
  have P0_4 : Hid ((w3.alloc (.cells #[.slice VA0 xs0_0.length xs0_0.length, .slice VA1 xs0_1.length xs0_1.length, .int .i64 n0_2, .bool n0_3] 30)).cell? ⟨w.heap.size + 1, 0, none⟩ = some (.int .i64 p0)) := Lib.hid (oldcell G4.out P0_3.out)
  have P1_4 : Hid ((w3.alloc (.cells #[.slice VA0 xs0_0.length xs0_0.length, .slice VA1 xs0_1.length xs0_1.length, .int .i64 n0_2, .bool n0_3] 30)).cell? ⟨w.heap.size + 1, 1, none⟩ = some (.int .i64 p1)) := Lib.hid (oldcell G4.out P1_3.out)
  have P2_4 : Hid ((w3.alloc (.cells #[.slice VA0 xs0_0.length xs0_0.length, .slice VA1 xs0_1.length xs0_1.length, .int .i64 n0_2, .bool n0_3] 30)).cell? ⟨w.heap.size + 1, 2, none⟩ = some (.int .i64 p2)) := Lib.hid (oldcell G4.out P2_3.out)
  have P3_4 : Hid ((w3.alloc (.cells #[.slice VA0 xs0_0.length xs0_0.length, .slice VA1 xs0_1.length xs0_1.length, .int .i64 n0_2, .bool n0_3] 30)).cell? ⟨w.heap.size + 1, 3, none⟩ = some (.int .i64 p3)) := Lib.hid (oldcell G4.out P3_3.out)
  have OZ0_4 : Hid (OT (w3.alloc (.cells #[.slice VA0 xs0_0.length xs0_0.length, .slice VA1 xs0_1.length xs0_1.length, .int .i64 n0_2, .bool n0_3] 30)) loZ (.slice ZA0 D.length Zc0) D) := Lib.hid (own_bel OZ0_3.out G4.out)
  have OZ1_4 : Hid (OU (w3.alloc (.cells #[.slice VA0 xs0_0.length xs0_0.length, .slice VA1 xs0_1.length xs0_1.length, .int .i64 n0_2, .bool n0_3] 30)) loZ (.slice ZA1 M.length Zc1) M) := Lib.hid (own_bel OZ1_3.out G4.out)
  have Q0_4 : Hid ((w3.alloc (.cells #[.slice VA0 xs0_0.length xs0_0.length, .slice VA1 xs0_1.length xs0_1.length, .int .i64 n0_2, .bool n0_3] 30)).cell? ⟨bZ, 0, none⟩ = some (.slice ZA0 D.length Zc0)) := Lib.hid (oldcell G4.out Q0_3.out)
  have Q1_4 : Hid ((w3.alloc (.cells #[.slice VA0 xs0_0.length xs0_0.length, .slice VA1 xs0_1.length xs0_1.length, .int .i64 n0_2, .bool n0_3] 30)).cell? ⟨bZ, 1, none⟩ = some (.slice ZA1 M.length Zc1)) := Lib.hid (oldcell G4.out Q1_3.out)
  have Q2_4 : Hid ((w3.alloc (.cells #[.slice VA0 xs0_0.length xs0_0.length, .slice VA1 xs0_1.length xs0_1.length, .int .i64 n0_2, .bool n0_3] 30)).cell? ⟨bZ, 2, none⟩ = some (.int .i64 fz)) := Lib.hid (oldcell G4.out Q2_3.out)
  have Q3_4 : Hid ((w3.alloc (.cells #[.slice VA0 xs0_0.length xs0_0.length, .slice VA1 xs0_1.length xs0_1.length, .int .i64 n0_2, .bool n0_3] 30)).cell? ⟨bZ, 3, none⟩ = some (.bool fo)) := Lib.hid (oldcell G4.out Q3_3.out)
  have OV0_4 : Hid (OT (w3.alloc (.cells #[.slice VA0 xs0_0.length xs0_0.length, .slice VA1 xs0_1.length xs0_1.length, .int .i64 n0_2, .bool n0_3] 30)) w2.heap.size (.slice VA0 xs0_0.length xs0_0.length) xs0_0) := Lib.hid (own_bel OV0_3.out G4.out)
  have OV1_4 : Hid (OU (w3.alloc (.cells #[.slice VA0 xs0_0.length xs0_0.length, .slice VA1 xs0_1.length xs0_1.length, .int .i64 n0_2, .bool n0_3] 30)) w2.heap.size (.slice VA1 xs0_1.length xs0_1.length) xs0_1) := Lib.hid (own_bel OV1_3.out G4.out)
  have HB4 : Hid (Below w.heap.size w (w3.alloc (.cells #[.slice VA0 xs0_0.length xs0_0.length, .slice VA1 xs0_1.length xs0_1.length, .int .i64 n0_2, .bool n0_3] 30))) := Lib.hid (HB3.out.trans (G4.out.mono HB3.out.size))
  have K0_4 : Hid ((w3.alloc (.cells #[.slice VA0 xs0_0.length xs0_0.length, .slice VA1 xs0_1.length xs0_1.length, .int .i64 n0_2, .bool n0_3] 30)).cell? ⟨w3.heap.size, 0, none⟩ = some (.slice VA0 xs0_0.length xs0_0.length)) := Lib.hid (by rw [cell_of_row _ _ _ _ _ _ (heap_alloc_new w3 _)]; rfl)
  have K1_4 : Hid ((w3.alloc (.cells #[.slice VA0 xs0_0.length xs0_0.length, .slice VA1 xs0_1.length xs0_1.length, .int .i64 n0_2, .bool n0_3] 30)).cell? ⟨w3.heap.size, 1, none⟩ = some (.slice VA1 xs0_1.length xs0_1.length)) := Lib.hid (by rw [cell_of_row _ _ _ _ _ _ (heap_alloc_new w3 _)]; rfl)
  have K2_4 : Hid ((w3.alloc (.cells #[.slice VA0 xs0_0.length xs0_0.length, .slice VA1 xs0_1.length xs0_1.length, .int .i64 n0_2, .bool n0_3] 30)).cell? ⟨w3.heap.size, 2, none⟩ = some (.int .i64 n0_2)) := Lib.hid (by rw [cell_of_row _ _ _ _ _ _ (heap_alloc_new w3 _)]; rfl)
  have K3_4 : Hid ((w3.alloc (.cells #[.slice VA0 xs0_0.length xs0_0.length, .slice VA1 xs0_1.length xs0_1.length, .int .i64 n0_2, .bool n0_3] 30)).cell? ⟨w3.heap.size, 3, none⟩ = some (.bool n0_3)) := Lib.hid (by rw [cell_of_row _ _ _ _ _ _ (heap_alloc_new w3 _)]; rfl)
  have qF0 := F0_4.out
  have qF1 := F1_4.out
  have qF2 := F2_4.out
  have qF3 := F3_4.out
  have qP0 := P0_4.out
  have qP1 := P1_4.out
  have qP2 := P2_4.out
  have qP3 := P3_4.out
  have qQ0 := Q0_4.out
  have qQ1 := Q1_4.out
  have qQ2 := Q2_4.out
  have qQ3 := Q3_4.out
  have qK0 := K0_4.out
  have qK1 := K1_4.out
  have qK2 := K2_4.out
  have qK3 := K3_4.out
  go_wp2
  clear qF0 qF1 qF2 qF3 qP0 qP1 qP2 qP3 qQ0 qQ1 qQ2 qQ3 qK0 qK1 qK2 qK3
  generalize (w3.alloc (.cells #[.slice VA0 xs0_0.length xs0_0.length, .slice VA1 xs0_1.length xs0_1.length, .int .i64 n0_2, .bool n0_3] 30)) = w4 at *
  have HSY : Hid (∀ W, Below w4.heap.size w4 W → W.cell? ⟨w.heap.size, 0, none⟩ = some (.slice A0 xs0_0.length c0) ∧ W.cell? ⟨w.heap.size, 1, none⟩ = some (.slice A1 xs0_1.length c1) ∧ W.cell? ⟨w.heap.size, 2, none⟩ = some (.int .i64 n0_2) ∧ W.cell? ⟨w.heap.size, 3, none⟩ = some (.bool n0_3) ∧ W.cell? ⟨w.heap.size + 1, 0, none⟩ = some (.int .i64 p0) ∧ W.cell? ⟨w.heap.size + 1, 1, none⟩ = some (.int .i64 p1) ∧ W.cell? ⟨w.heap.size + 1, 2, none⟩ = some (.int .i64 p2) ∧ W.cell? ⟨w.heap.size + 1, 3, none⟩ = some (.int .i64 p3) ∧ W.cell? ⟨w3.heap.size, 0, none⟩ = some (.slice VA0 xs0_0.length xs0_0.length) ∧ W.cell? ⟨w3.heap.size, 1, none⟩ = some (.slice VA1 xs0_1.length xs0_1.length) ∧ W.cell? ⟨w3.heap.size, 2, none⟩ = some (.int .i64 n0_2) ∧ W.cell? ⟨w3.heap.size, 3, none⟩ = some (.bool n0_3)) := Lib.hid (fun W hW => ⟨oldcell hW F0_4.out, oldcell hW F1_4.out, oldcell hW F2_4.out, oldcell hW F3_4.out, oldcell hW P0_4.out, oldcell hW P1_4.out, oldcell hW P2_4.out, oldcell hW P3_4.out, oldcell hW K0_4.out, oldcell hW K1_4.out, oldcell hW K2_4.out, oldcell hW K3_4.out⟩)
  have HDrY : Hid (Below w4.heap.size w4 w4.drew) := Lib.hid (Below.refl _ _).drew
  apply wp_drawn2 w4 30 D M fz fo
  · refine wp_region_held_drew (S := fun W => W.cell? ⟨w.heap.size, 0, none⟩ = some (.slice A0 xs0_0.length c0) ∧ W.cell? ⟨w.heap.size, 1, none⟩ = some (.slice A1 xs0_1.length c1) ∧ W.cell? ⟨w.heap.size, 2, none⟩ = some (.int .i64 n0_2) ∧ W.cell? ⟨w.heap.size, 3, none⟩ = some (.bool n0_3) ∧ W.cell? ⟨w.heap.size + 1, 0, none⟩ = some (.int .i64 p0) ∧ W.cell? ⟨w.heap.size + 1, 1, none⟩ = some (.int .i64 p1) ∧ W.cell? ⟨w.heap.size + 1, 2, none⟩ = some (.int .i64 p2) ∧ W.cell? ⟨w.heap.size + 1, 3, none⟩ = some (.int .i64 p3) ∧ W.cell? ⟨w3.heap.size, 0, none⟩ = some (.slice VA0 xs0_0.length xs0_0.length) ∧ W.cell? ⟨w3.heap.size, 1, none⟩ = some (.slice VA1 xs0_1.length xs0_1.length) ∧ W.cell? ⟨w3.heap.size, 2, none⟩ = some (.int .i64 n0_2) ∧ W.cell? ⟨w3.heap.size, 3, none⟩ = some (.bool n0_3)) (by kernel_rfl) (HSY.out _ HDrY.out) (fun hHeld => ?_)
    refine held_yes 0 (some 32) rfl rfl (by kernel_rfl) (by kernel_rfl) (by kernel_rfl) (fun _ _ _ h => h) (by kernel_rfl) hHeld (v := ?_) (fun wz hSw => ?_) ?_
    rotate_left 1
    · (try dsimp only at hSw); go_simp; (try with_reducible rfl)
    try simp only [Act.put, List.setIfInBounds_toArray, List.set_cons_zero, List.set_cons_succ]
    refine held_yes 1 (some 33) rfl rfl (by kernel_rfl) (by kernel_rfl) (by kernel_rfl) (fun _ _ _ h => h) (by kernel_rfl) hHeld (v := ?_) (fun wz hSw => ?_) ?_
    rotate_left 1
    · (try dsimp only at hSw); go_simp; (try with_reducible rfl)
    try simp only [Act.put, List.setIfInBounds_toArray, List.set_cons_zero, List.set_cons_succ]
    refine wpAnyH_ready (rs := [2, 7]) (by kernel_rfl) (by simp) ?_
    refine AllReadyH.cons rfl (fun K hK => ?_) (AllReadyH.cons rfl (fun K hK => ?_) AllReadyH.nil)
    · skip
      go_simp
      go_at_call 44
      go_fit (toSuper_any p0 p1 p2 p3 _)
      rintro e u1Y ⟨rfl, g⟩
      skip
      have kb1 : Below w4.heap.size w4 u1Y := (HDrY.out).trans (g.mono (HDrY.out).size)
      have g1 := g; clear g
      refine hK.out _ _ (HSY.out _ kb1) (fun hHeld => ?_)
      clear hK K
      try simp only [Act.put, List.setIfInBounds_toArray, List.set_cons_zero, List.set_cons_succ]
      refine wpAnyH_ready (rs := [3, 7]) (by kernel_rfl) (by simp) ?_
      refine AllReadyH.cons rfl (fun K hK => ?_) (AllReadyH.cons rfl (fun K hK => ?_) AllReadyH.nil)
      · skip
        go_simp
        go_at_call 54
        go_fit (P0.out _ _ _ (OT.rit (own_bel OV0_4.out (kb1)) IDa.out) (OU.riu (own_bel OV1_4.out (kb1)) IMa.out))
        rintro e u2Y ⟨Z0, Z1, d0, d1, rfl, oa, ob, hap, g⟩
        skip
        have kb2 : Below w4.heap.size w4 u2Y := (kb1).trans (g.mono (kb1).size)
        have g2 := g; clear g
        refine hK.out _ _ (HSY.out _ kb2) (fun hHeld => ?_)
        clear hK K
        try simp only [Act.put, List.setIfInBounds_toArray, List.set_cons_zero, List.set_cons_succ]
        refine held_yes 4 (some 31) rfl rfl (by kernel_rfl) (by kernel_rfl) (by kernel_rfl) (fun _ _ _ h => h) (by kernel_rfl) hHeld (v := ?_) (fun wz hSw => ?_) ?_
        rotate_left 1
        · (try dsimp only at hSw); go_simp; (try with_reducible rfl)
        try simp only [Act.put, List.setIfInBounds_toArray, List.set_cons_zero, List.set_cons_succ]
        refine held_yes 5 (some 36) rfl rfl (by kernel_rfl) (by kernel_rfl) (by kernel_rfl) (fun _ _ _ h => h) (by kernel_rfl) hHeld (v := ?_) (fun wz hSw => ?_) ?_
        rotate_left 1
        · (try dsimp only at hSw); go_simp; (try with_reducible rfl)
        try simp only [Act.put, List.setIfInBounds_toArray, List.set_cons_zero, List.set_cons_succ]
        refine held_yes 6 (some 37) rfl rfl (by kernel_rfl) (by kernel_rfl) (by kernel_rfl) (fun _ _ _ h => h) (by kernel_rfl) hHeld (v := ?_) (fun wz hSw => ?_) ?_
        rotate_left 1
        · (try dsimp only at hSw); go_simp; (try with_reducible rfl)
        try simp only [Act.put, List.setIfInBounds_toArray, List.set_cons_zero, List.set_cons_succ]
        refine wpAnyH_ready (rs := [7]) (by kernel_rfl) (by simp) ?_
        refine AllReadyH.cons rfl (fun K hK => ?_) AllReadyH.nil
        go_simp
        have kbA := (kb2).alloc (kb2).size (.cells #[.slice none 0 0, .slice none 0 0, .int .i64 0, .bool false] 30)
        have ryA : Four (u2Y.alloc (.cells #[.slice none 0 0, .slice none 0 0, .int .i64 0, .bool false] 30)) u2Y.heap.size 30 (.slice none 0 0) (.slice none 0 0) (.int .i64 0) (.bool false) := Four.new _ _ _ _ _ _
        refine hK.out _ _ (HSY.out _ kbA) (fun hHeld => ?_)
        clear hK K
        try simp only [Act.put, List.setIfInBounds_toArray, List.set_cons_zero, List.set_cons_succ]
        have y0 := (ryA).c0; have y1 := (ryA).c1; have y2 := (ryA).c2; have y3 := (ryA).c3; have y4 := (ryA).f 0; have y5 := (ryA).f 1; have y6 := (ryA).f 2; have y7 := (ryA).f 3
        refine wpAnyH_ready (rs := [8]) (by kernel_rfl) (by simp) ?_
        refine AllReadyH.cons rfl (fun K hK => ?_) AllReadyH.nil
        go_simp
        have F := finC (t := 30) (fz := fz) (off := fo) kb2 oa ob hap (kb1.size)
        refine hK.out _ _ (HSY.out _ F.2.2.2.2.1) (fun hHeld => ?_)
        clear hK K y0 y1 y2 y3 y4 y5 y6 y7
        try simp only [Act.put, List.setIfInBounds_toArray, List.set_cons_zero, List.set_cons_succ]
        refine held_yes 9 (some 10) rfl rfl (by kernel_rfl) (by kernel_rfl) (by kernel_rfl) (fun _ _ _ h => h) (by kernel_rfl) hHeld (v := ?_) (fun wz hSw => ?_) ?_
        rotate_left 1
        · (try dsimp only at hSw); go_simp; (try with_reducible rfl)
        try simp only [Act.put, List.setIfInBounds_toArray, List.set_cons_zero, List.set_cons_succ]
        refine wpAnyH_done (by kernel_rfl) ?_ _
        revert F
        generalize u2Y.heap.size = b6
        intro F
        exact ⟨Z0, Z1, d0, d1, b6, _, _, rfl, F⟩
      · skip
        go_simp
        have kbA := (kb1).alloc (kb1).size (.cells #[.slice none 0 0, .slice none 0 0, .int .i64 0, .bool false] 30)
        have ryA : Four (u1Y.alloc (.cells #[.slice none 0 0, .slice none 0 0, .int .i64 0, .bool false] 30)) u1Y.heap.size 30 (.slice none 0 0) (.slice none 0 0) (.int .i64 0) (.bool false) := Four.new _ _ _ _ _ _
        refine hK.out _ _ (HSY.out _ kbA) (fun hHeld => ?_)
        clear hK K
        try simp only [Act.put, List.setIfInBounds_toArray, List.set_cons_zero, List.set_cons_succ]
        refine wpAnyH_ready (rs := [3]) (by kernel_rfl) (by simp) ?_
        refine AllReadyH.cons rfl (fun K hK => ?_) AllReadyH.nil
        go_simp
        go_at_call 54
        go_fit (P0.out _ _ _ (OT.rit (own_bel OV0_4.out (kbA)) IDa.out) (OU.riu (own_bel OV1_4.out (kbA)) IMa.out))
        rintro e u2Y ⟨Z0, Z1, d0, d1, rfl, oa, ob, hap, g⟩
        skip
        have kb2 : Below w4.heap.size w4 u2Y := (kbA).trans (g.mono (kbA).size)
        have ry2 := (ryA).keep g
        have g2 := g; clear g
        refine hK.out _ _ (HSY.out _ kb2) (fun hHeld => ?_)
        clear hK K
        try simp only [Act.put, List.setIfInBounds_toArray, List.set_cons_zero, List.set_cons_succ]
        refine held_yes 4 (some 31) rfl rfl (by kernel_rfl) (by kernel_rfl) (by kernel_rfl) (fun _ _ _ h => h) (by kernel_rfl) hHeld (v := ?_) (fun wz hSw => ?_) ?_
        rotate_left 1
        · (try dsimp only at hSw); go_simp; (try with_reducible rfl)
        try simp only [Act.put, List.setIfInBounds_toArray, List.set_cons_zero, List.set_cons_succ]
        refine held_yes 5 (some 36) rfl rfl (by kernel_rfl) (by kernel_rfl) (by kernel_rfl) (fun _ _ _ h => h) (by kernel_rfl) hHeld (v := ?_) (fun wz hSw => ?_) ?_
        rotate_left 1
        · (try dsimp only at hSw); go_simp; (try with_reducible rfl)
        try simp only [Act.put, List.setIfInBounds_toArray, List.set_cons_zero, List.set_cons_succ]
        refine held_yes 6 (some 37) rfl rfl (by kernel_rfl) (by kernel_rfl) (by kernel_rfl) (fun _ _ _ h => h) (by kernel_rfl) hHeld (v := ?_) (fun wz hSw => ?_) ?_
        rotate_left 1
        · (try dsimp only at hSw); go_simp; (try with_reducible rfl)
        try simp only [Act.put, List.setIfInBounds_toArray, List.set_cons_zero, List.set_cons_succ]
        have y0 := (ry2).c0; have y1 := (ry2).c1; have y2 := (ry2).c2; have y3 := (ry2).c3; have y4 := (ry2).f 0; have y5 := (ry2).f 1; have y6 := (ry2).f 2; have y7 := (ry2).f 3
        refine wpAnyH_ready (rs := [8]) (by kernel_rfl) (by simp) ?_
        refine AllReadyH.cons rfl (fun K hK => ?_) AllReadyH.nil
        go_simp
        have F := finB (fz := fz) (off := fo) (lo := (u1Y.alloc (.cells #[.slice none 0 0, .slice none 0 0, .int .i64 0, .bool false] 30)).heap.size) (kb2) (ry2) oa ob hap ((kb1.alloc kb1.size (.cells #[.slice none 0 0, .slice none 0 0, .int .i64 0, .bool false] 30)).size) (kb1.size) (by simp)
        refine hK.out _ _ (HSY.out _ F.2.2.2.2.1) (fun hHeld => ?_)
        clear hK K y0 y1 y2 y3 y4 y5 y6 y7
        try simp only [Act.put, List.setIfInBounds_toArray, List.set_cons_zero, List.set_cons_succ]
        refine held_yes 9 (some 10) rfl rfl (by kernel_rfl) (by kernel_rfl) (by kernel_rfl) (fun _ _ _ h => h) (by kernel_rfl) hHeld (v := ?_) (fun wz hSw => ?_) ?_
        rotate_left 1
        · (try dsimp only at hSw); go_simp; (try with_reducible rfl)
        try simp only [Act.put, List.setIfInBounds_toArray, List.set_cons_zero, List.set_cons_succ]
        refine wpAnyH_done (by kernel_rfl) ?_ _
        revert F
        generalize u1Y.heap.size = b6
        intro F
        exact ⟨Z0, Z1, d0, d1, b6, _, _, rfl, F⟩
    · skip
      go_simp
      have kbA := (HDrY.out).alloc (HDrY.out).size (.cells #[.slice none 0 0, .slice none 0 0, .int .i64 0, .bool false] 30)
      have ryA : Four (w4.drew.alloc (.cells #[.slice none 0 0, .slice none 0 0, .int .i64 0, .bool false] 30)) w4.heap.size 30 (.slice none 0 0) (.slice none 0 0) (.int .i64 0) (.bool false) := Four.new _ _ _ _ _ _
      refine hK.out _ _ (HSY.out _ kbA) (fun hHeld => ?_)
      clear hK K
      try simp only [Act.put, List.setIfInBounds_toArray, List.set_cons_zero, List.set_cons_succ]
      refine wpAnyH_ready (rs := [2]) (by kernel_rfl) (by simp) ?_
      refine AllReadyH.cons rfl (fun K hK => ?_) AllReadyH.nil
      go_simp
      go_at_call 44
      go_fit (toSuper_any p0 p1 p2 p3 _)
      rintro e u1Y ⟨rfl, g⟩
      skip
      have kb1 : Below w4.heap.size w4 u1Y := (kbA).trans (g.mono (kbA).size)
      have ry1 := (ryA).keep g
      have g1 := g; clear g
      refine hK.out _ _ (HSY.out _ kb1) (fun hHeld => ?_)
      clear hK K
      try simp only [Act.put, List.setIfInBounds_toArray, List.set_cons_zero, List.set_cons_succ]
      refine wpAnyH_ready (rs := [3]) (by kernel_rfl) (by simp) ?_
      refine AllReadyH.cons rfl (fun K hK => ?_) AllReadyH.nil
      go_simp
      go_at_call 54
      go_fit (P0.out _ _ _ (OT.rit (own_bel OV0_4.out (kb1)) IDa.out) (OU.riu (own_bel OV1_4.out (kb1)) IMa.out))
      rintro e u2Y ⟨Z0, Z1, d0, d1, rfl, oa, ob, hap, g⟩
      skip
      have kb2 : Below w4.heap.size w4 u2Y := (kb1).trans (g.mono (kb1).size)
      have ry2 := (ry1).keep g
      have g2 := g; clear g
      refine hK.out _ _ (HSY.out _ kb2) (fun hHeld => ?_)
      clear hK K
      try simp only [Act.put, List.setIfInBounds_toArray, List.set_cons_zero, List.set_cons_succ]
      refine held_yes 4 (some 31) rfl rfl (by kernel_rfl) (by kernel_rfl) (by kernel_rfl) (fun _ _ _ h => h) (by kernel_rfl) hHeld (v := ?_) (fun wz hSw => ?_) ?_
      rotate_left 1
      · (try dsimp only at hSw); go_simp; (try with_reducible rfl)
      try simp only [Act.put, List.setIfInBounds_toArray, List.set_cons_zero, List.set_cons_succ]
      refine held_yes 5 (some 36) rfl rfl (by kernel_rfl) (by kernel_rfl) (by kernel_rfl) (fun _ _ _ h => h) (by kernel_rfl) hHeld (v := ?_) (fun wz hSw => ?_) ?_
      rotate_left 1
      · (try dsimp only at hSw); go_simp; (try with_reducible rfl)
      try simp only [Act.put, List.setIfInBounds_toArray, List.set_cons_zero, List.set_cons_succ]
      refine held_yes 6 (some 37) rfl rfl (by kernel_rfl) (by kernel_rfl) (by kernel_rfl) (fun _ _ _ h => h) (by kernel_rfl) hHeld (v := ?_) (fun wz hSw => ?_) ?_
      rotate_left 1
      · (try dsimp only at hSw); go_simp; (try with_reducible rfl)
      try simp only [Act.put, List.setIfInBounds_toArray, List.set_cons_zero, List.set_cons_succ]
      have y0 := (ry2).c0; have y1 := (ry2).c1; have y2 := (ry2).c2; have y3 := (ry2).c3; have y4 := (ry2).f 0; have y5 := (ry2).f 1; have y6 := (ry2).f 2; have y7 := (ry2).f 3
      refine wpAnyH_ready (rs := [8]) (by kernel_rfl) (by simp) ?_
      refine AllReadyH.cons rfl (fun K hK => ?_) AllReadyH.nil
      go_simp
      have F := finB (fz := fz) (off := fo) (lo := u1Y.heap.size) (kb2) (ry2) oa ob hap (kb1.size) (Nat.le_refl _) (by have := ry1.lt; omega)
      refine hK.out _ _ (HSY.out _ F.2.2.2.2.1) (fun hHeld => ?_)
      clear hK K y0 y1 y2 y3 y4 y5 y6 y7
      try simp only [Act.put, List.setIfInBounds_toArray, List.set_cons_zero, List.set_cons_succ]
      refine held_yes 9 (some 10) rfl rfl (by kernel_rfl) (by kernel_rfl) (by kernel_rfl) (fun _ _ _ h => h) (by kernel_rfl) hHeld (v := ?_) (fun wz hSw => ?_) ?_
      rotate_left 1
      · (try dsimp only at hSw); go_simp; (try with_reducible rfl)
      try simp only [Act.put, List.setIfInBounds_toArray, List.set_cons_zero, List.set_cons_succ]
      refine wpAnyH_done (by kernel_rfl) ?_ _
      revert F
      generalize w4.heap.size = b6
      intro F
      exact ⟨Z0, Z1, d0, d1, b6, _, _, rfl, F⟩
  rintro a' w5 ⟨YA0, YA1, Yc0, Yc1, bY, loY, hiY, rfl, F⟩
  have SZ5 : Hid (w4.heap.size ≤ w5.heap.size ∧ (w4.heap.size ≤ bY ∧ bY < w5.heap.size ∧ w4.heap.size ≤ loY ∧ hiY ≤ w5.heap.size ∧ (bY < loY ∨ hiY ≤ bY))) := Lib.hid ⟨F.2.2.2.2.1.size, F.2.2.2.2.2.1⟩
  have G5 := Lib.hid F.2.2.2.2.1
  have F0_5 : Hid (w5.cell? ⟨w.heap.size, 0, none⟩ = some (.slice A0 xs0_0.length c0)) := Lib.hid (oldcell G5.out F0_4.out)
  have F1_5 : Hid (w5.cell? ⟨w.heap.size, 1, none⟩ = some (.slice A1 xs0_1.length c1)) := Lib.hid (oldcell G5.out F1_4.out)
  have F2_5 : Hid (w5.cell? ⟨w.heap.size, 2, none⟩ = some (.int .i64 n0_2)) := Lib.hid (oldcell G5.out F2_4.out)
  have F3_5 : Hid (w5.cell? ⟨w.heap.size, 3, none⟩ = some (.bool n0_3)) := Lib.hid (oldcell G5.out F3_4.out)
  have P0_5 : Hid (w5.cell? ⟨w.heap.size + 1, 0, none⟩ = some (.int .i64 p0)) := Lib.hid (oldcell G5.out P0_4.out)
  have P1_5 : Hid (w5.cell? ⟨w.heap.size + 1, 1, none⟩ = some (.int .i64 p1)) := Lib.hid (oldcell G5.out P1_4.out)
  have P2_5 : Hid (w5.cell? ⟨w.heap.size + 1, 2, none⟩ = some (.int .i64 p2)) := Lib.hid (oldcell G5.out P2_4.out)
  have P3_5 : Hid (w5.cell? ⟨w.heap.size + 1, 3, none⟩ = some (.int .i64 p3)) := Lib.hid (oldcell G5.out P3_4.out)
  have OZ0_5 : Hid (OT w5 loZ (.slice ZA0 D.length Zc0) D) := Lib.hid (own_bel OZ0_4.out G5.out)
  have OZ1_5 : Hid (OU w5 loZ (.slice ZA1 M.length Zc1) M) := Lib.hid (own_bel OZ1_4.out G5.out)
  have Q0_5 : Hid (w5.cell? ⟨bZ, 0, none⟩ = some (.slice ZA0 D.length Zc0)) := Lib.hid (oldcell G5.out Q0_4.out)
  have Q1_5 : Hid (w5.cell? ⟨bZ, 1, none⟩ = some (.slice ZA1 M.length Zc1)) := Lib.hid (oldcell G5.out Q1_4.out)
  have Q2_5 : Hid (w5.cell? ⟨bZ, 2, none⟩ = some (.int .i64 fz)) := Lib.hid (oldcell G5.out Q2_4.out)
  have Q3_5 : Hid (w5.cell? ⟨bZ, 3, none⟩ = some (.bool fo)) := Lib.hid (oldcell G5.out Q3_4.out)
  have OV0_5 : Hid (OT w5 w2.heap.size (.slice VA0 xs0_0.length xs0_0.length) xs0_0) := Lib.hid (own_bel OV0_4.out G5.out)
  have OV1_5 : Hid (OU w5 w2.heap.size (.slice VA1 xs0_1.length xs0_1.length) xs0_1) := Lib.hid (own_bel OV1_4.out G5.out)
  have K0_5 : Hid (w5.cell? ⟨w3.heap.size, 0, none⟩ = some (.slice VA0 xs0_0.length xs0_0.length)) := Lib.hid (oldcell G5.out K0_4.out)
  have K1_5 : Hid (w5.cell? ⟨w3.heap.size, 1, none⟩ = some (.slice VA1 xs0_1.length xs0_1.length)) := Lib.hid (oldcell G5.out K1_4.out)
  have K2_5 : Hid (w5.cell? ⟨w3.heap.size, 2, none⟩ = some (.int .i64 n0_2)) := Lib.hid (oldcell G5.out K2_4.out)
  have K3_5 : Hid (w5.cell? ⟨w3.heap.size, 3, none⟩ = some (.bool n0_3)) := Lib.hid (oldcell G5.out K3_4.out)
  have HB5 : Hid (Below w.heap.size w w5) := Lib.hid (HB4.out.trans (G5.out.mono HB4.out.size))
  have OY0_5 : Hid (OT w5 loY (.slice YA0 D.length Yc0) D) := Lib.hid F.2.1
  have IY0 : Hid (Wi loY hiY (.slice YA0 D.length Yc0)) := Lib.hid F.2.2.2.2.2.2.1
  have OY1_5 : Hid (OU w5 loY (.slice YA1 M.length Yc1) M) := Lib.hid F.2.2.1
  have IY1 : Hid (Wi loY hiY (.slice YA1 M.length Yc1)) := Lib.hid F.2.2.2.2.2.2.2
  have XY := Lib.hid F.2.2.2.1
  have S0_5 : Hid (w5.cell? ⟨bY, 0, none⟩ = some (.slice YA0 D.length Yc0)) := Lib.hid F.1.c0
  have S1_5 : Hid (w5.cell? ⟨bY, 1, none⟩ = some (.slice YA1 M.length Yc1)) := Lib.hid F.1.c1
  have S2_5 : Hid (w5.cell? ⟨bY, 2, none⟩ = some (.int .i64 fz)) := Lib.hid F.1.c2
  have S3_5 : Hid (w5.cell? ⟨bY, 3, none⟩ = some (.bool fo)) := Lib.hid F.1.c3
  clear F
  try simp only [Exit.then]
  have qF0 := F0_5.out
  have qF1 := F1_5.out
  have qF2 := F2_5.out
  have qF3 := F3_5.out
  have qP0 := P0_5.out
  have qP1 := P1_5.out
  have qP2 := P2_5.out
  have qP3 := P3_5.out
  have qQ0 := Q0_5.out
  have qQ1 := Q1_5.out
  have qQ2 := Q2_5.out
  have qQ3 := Q3_5.out
  have qK0 := K0_5.out
  have qK1 := K1_5.out
  have qK2 := K2_5.out
  have qK3 := K3_5.out
  have qS0 := S0_5.out
  have qS1 := S1_5.out
  have qS2 := S2_5.out
  have qS3 := S3_5.out
  go_wp2_with fail
  clear qF0 qF1 qF2 qF3 qP0 qP1 qP2 qP3 qQ0 qQ1 qQ2 qQ3 qK0 qK1 qK2 qK3 qS0 qS1 qS2 qS3
  refine (eqDisk_any (OY0_5.out.rit ID.out) (OY1_5.out.riu IM.out) (OZ0_5.out.rit ID.out) (OZ1_5.out.riu IM.out) (Nat.le_refl _)).mono ?_
  rintro e w6 ⟨rfl, g⟩
  have G6 := Lib.hid g; have SZ6 : Hid (w5.heap.size ≤ w6.heap.size) := Lib.hid g.size; clear g
  have F0_6 : Hid (w6.cell? ⟨w.heap.size, 0, none⟩ = some (.slice A0 xs0_0.length c0)) := Lib.hid (oldcell G6.out F0_5.out)
  have F1_6 : Hid (w6.cell? ⟨w.heap.size, 1, none⟩ = some (.slice A1 xs0_1.length c1)) := Lib.hid (oldcell G6.out F1_5.out)
  have F2_6 : Hid (w6.cell? ⟨w.heap.size, 2, none⟩ = some (.int .i64 n0_2)) := Lib.hid (oldcell G6.out F2_5.out)
  have F3_6 : Hid (w6.cell? ⟨w.heap.size, 3, none⟩ = some (.bool n0_3)) := Lib.hid (oldcell G6.out F3_5.out)
  have P0_6 : Hid (w6.cell? ⟨w.heap.size + 1, 0, none⟩ = some (.int .i64 p0)) := Lib.hid (oldcell G6.out P0_5.out)
  have P1_6 : Hid (w6.cell? ⟨w.heap.size + 1, 1, none⟩ = some (.int .i64 p1)) := Lib.hid (oldcell G6.out P1_5.out)
  have P2_6 : Hid (w6.cell? ⟨w.heap.size + 1, 2, none⟩ = some (.int .i64 p2)) := Lib.hid (oldcell G6.out P2_5.out)
  have P3_6 : Hid (w6.cell? ⟨w.heap.size + 1, 3, none⟩ = some (.int .i64 p3)) := Lib.hid (oldcell G6.out P3_5.out)
  have OZ0_6 : Hid (OT w6 loZ (.slice ZA0 D.length Zc0) D) := Lib.hid (own_bel OZ0_5.out G6.out)
  have OZ1_6 : Hid (OU w6 loZ (.slice ZA1 M.length Zc1) M) := Lib.hid (own_bel OZ1_5.out G6.out)
  have Q0_6 : Hid (w6.cell? ⟨bZ, 0, none⟩ = some (.slice ZA0 D.length Zc0)) := Lib.hid (oldcell G6.out Q0_5.out)
  have Q1_6 : Hid (w6.cell? ⟨bZ, 1, none⟩ = some (.slice ZA1 M.length Zc1)) := Lib.hid (oldcell G6.out Q1_5.out)
  have Q2_6 : Hid (w6.cell? ⟨bZ, 2, none⟩ = some (.int .i64 fz)) := Lib.hid (oldcell G6.out Q2_5.out)
  have Q3_6 : Hid (w6.cell? ⟨bZ, 3, none⟩ = some (.bool fo)) := Lib.hid (oldcell G6.out Q3_5.out)
  have OV0_6 : Hid (OT w6 w2.heap.size (.slice VA0 xs0_0.length xs0_0.length) xs0_0) := Lib.hid (own_bel OV0_5.out G6.out)
  have OV1_6 : Hid (OU w6 w2.heap.size (.slice VA1 xs0_1.length xs0_1.length) xs0_1) := Lib.hid (own_bel OV1_5.out G6.out)
  have K0_6 : Hid (w6.cell? ⟨w3.heap.size, 0, none⟩ = some (.slice VA0 xs0_0.length xs0_0.length)) := Lib.hid (oldcell G6.out K0_5.out)
  have K1_6 : Hid (w6.cell? ⟨w3.heap.size, 1, none⟩ = some (.slice VA1 xs0_1.length xs0_1.length)) := Lib.hid (oldcell G6.out K1_5.out)
  have K2_6 : Hid (w6.cell? ⟨w3.heap.size, 2, none⟩ = some (.int .i64 n0_2)) := Lib.hid (oldcell G6.out K2_5.out)
  have K3_6 : Hid (w6.cell? ⟨w3.heap.size, 3, none⟩ = some (.bool n0_3)) := Lib.hid (oldcell G6.out K3_5.out)
  have OY0_6 : Hid (OT w6 loY (.slice YA0 D.length Yc0) D) := Lib.hid (own_bel OY0_5.out G6.out)
  have OY1_6 : Hid (OU w6 loY (.slice YA1 M.length Yc1) M) := Lib.hid (own_bel OY1_5.out G6.out)
  have S0_6 : Hid (w6.cell? ⟨bY, 0, none⟩ = some (.slice YA0 D.length Yc0)) := Lib.hid (oldcell G6.out S0_5.out)
  have S1_6 : Hid (w6.cell? ⟨bY, 1, none⟩ = some (.slice YA1 M.length Yc1)) := Lib.hid (oldcell G6.out S1_5.out)
  have S2_6 : Hid (w6.cell? ⟨bY, 2, none⟩ = some (.int .i64 fz)) := Lib.hid (oldcell G6.out S2_5.out)
  have S3_6 : Hid (w6.cell? ⟨bY, 3, none⟩ = some (.bool fo)) := Lib.hid (oldcell G6.out S3_5.out)
  have HB6 : Hid (Below w.heap.size w w6) := Lib.hid (HB5.out.trans (G6.out.mono HB5.out.size))
  have HSd : Hid (∀ W, Below w6.heap.size w6 W → W.cell? ⟨w.heap.size, 0, none⟩ = some (.slice A0 xs0_0.length c0) ∧ W.cell? ⟨w.heap.size, 1, none⟩ = some (.slice A1 xs0_1.length c1) ∧ W.cell? ⟨w.heap.size, 2, none⟩ = some (.int .i64 n0_2) ∧ W.cell? ⟨w.heap.size, 3, none⟩ = some (.bool n0_3) ∧ W.cell? ⟨w.heap.size + 1, 0, none⟩ = some (.int .i64 p0) ∧ W.cell? ⟨w.heap.size + 1, 1, none⟩ = some (.int .i64 p1) ∧ W.cell? ⟨w.heap.size + 1, 2, none⟩ = some (.int .i64 p2) ∧ W.cell? ⟨w.heap.size + 1, 3, none⟩ = some (.int .i64 p3) ∧ W.cell? ⟨w3.heap.size, 0, none⟩ = some (.slice VA0 xs0_0.length xs0_0.length) ∧ W.cell? ⟨w3.heap.size, 1, none⟩ = some (.slice VA1 xs0_1.length xs0_1.length) ∧ W.cell? ⟨w3.heap.size, 2, none⟩ = some (.int .i64 n0_2) ∧ W.cell? ⟨w3.heap.size, 3, none⟩ = some (.bool n0_3)) := Lib.hid (fun W hW => ⟨oldcell hW F0_6.out, oldcell hW F1_6.out, oldcell hW F2_6.out, oldcell hW F3_6.out, oldcell hW P0_6.out, oldcell hW P1_6.out, oldcell hW P2_6.out, oldcell hW P3_6.out, oldcell hW K0_6.out, oldcell hW K1_6.out, oldcell hW K2_6.out, oldcell hW K3_6.out⟩)
  have HDd : Hid (Below w6.heap.size w6 w6.drew) := Lib.hid (Below.refl _ _).drew
  have HEd : Hid (Below w.heap.size w w6.drew) := Lib.hid (HB6.out.trans (HDd.out.mono HB6.out.size))
  have qF0 := F0_6.out
  have qF1 := F1_6.out
  have qF2 := F2_6.out
  have qF3 := F3_6.out
  have qP0 := P0_6.out
  have qP1 := P1_6.out
  have qP2 := P2_6.out
  have qP3 := P3_6.out
  have qQ0 := Q0_6.out
  have qQ1 := Q1_6.out
  have qQ2 := Q2_6.out
  have qQ3 := Q3_6.out
  have qK0 := K0_6.out
  have qK1 := K1_6.out
  have qK2 := K2_6.out
  have qK3 := K3_6.out
  have qS0 := S0_6.out
  have qS1 := S1_6.out
  have qS2 := S2_6.out
  have qS3 := S3_6.out
  go_wp2
  clear qF0 qF1 qF2 qF3 qP0 qP1 qP2 qP3 qQ0 qQ1 qQ2 qQ3 qK0 qK1 qK2 qK3 qS0 qS1 qS2 qS3
  go_region_held3 (fun W => W.cell? ⟨w.heap.size, 0, none⟩ = some (.slice A0 xs0_0.length c0) ∧ W.cell? ⟨w.heap.size, 1, none⟩ = some (.slice A1 xs0_1.length c1) ∧ W.cell? ⟨w.heap.size, 2, none⟩ = some (.int .i64 n0_2) ∧ W.cell? ⟨w.heap.size, 3, none⟩ = some (.bool n0_3) ∧ W.cell? ⟨w.heap.size + 1, 0, none⟩ = some (.int .i64 p0) ∧ W.cell? ⟨w.heap.size + 1, 1, none⟩ = some (.int .i64 p1) ∧ W.cell? ⟨w.heap.size + 1, 2, none⟩ = some (.int .i64 p2) ∧ W.cell? ⟨w.heap.size + 1, 3, none⟩ = some (.int .i64 p3) ∧ W.cell? ⟨w3.heap.size, 0, none⟩ = some (.slice VA0 xs0_0.length xs0_0.length) ∧ W.cell? ⟨w3.heap.size, 1, none⟩ = some (.slice VA1 xs0_1.length xs0_1.length) ∧ W.cell? ⟨w3.heap.size, 2, none⟩ = some (.int .i64 n0_2) ∧ W.cell? ⟨w3.heap.size, 3, none⟩ = some (.bool n0_3)) (exact HSd.out _ (by first | exact kb | exact ka | exact HDd.out))
    ((first | (go_at_call 21; go_fit (toDisk_any (Ha.out.at (Nat.le_refl _) HEd.out) (Hb.out.at (Nat.le_refl _) HEd.out) (Nat.le_refl _) SM.out.1 SM.out.2); rintro e ua ⟨NA0, NA1, rfl, oa, ob, hap, ga⟩; have ON0 := Lib.hid oa; have ON1 := Lib.hid ob; clear oa ob hap; have ka : Below w6.heap.size w6 ua := HDd.out.trans ga; have gaa := Lib.hid ga; clear ga) | (go_at_call 23; go_fit (eqDisk_any (OT.rit (own_bel OV0_6.out ka) IDa.out) (OU.riu (own_bel OV1_6.out ka) IMa.out) (ON0.out.rit IDa.out) (ON1.out.riu IMa.out) (Nat.le_refl _)); rintro e w7 ⟨rfl, gb⟩; have kb : Below w6.heap.size w6 w7 := ka.trans (gb.mono ka.size); clear gb)))
  try simp only [Exit.then]
  have G7 := Lib.hid kb; have SZ7 : Hid (w6.heap.size ≤ w7.heap.size) := Lib.hid kb.size; clear kb ka gaa
  have F0_7 : Hid (w7.cell? ⟨w.heap.size, 0, none⟩ = some (.slice A0 xs0_0.length c0)) := Lib.hid (oldcell G7.out F0_6.out)
  have F1_7 : Hid (w7.cell? ⟨w.heap.size, 1, none⟩ = some (.slice A1 xs0_1.length c1)) := Lib.hid (oldcell G7.out F1_6.out)
  have F2_7 : Hid (w7.cell? ⟨w.heap.size, 2, none⟩ = some (.int .i64 n0_2)) := Lib.hid (oldcell G7.out F2_6.out)
  have F3_7 : Hid (w7.cell? ⟨w.heap.size, 3, none⟩ = some (.bool n0_3)) := Lib.hid (oldcell G7.out F3_6.out)
  have P0_7 : Hid (w7.cell? ⟨w.heap.size + 1, 0, none⟩ = some (.int .i64 p0)) := Lib.hid (oldcell G7.out P0_6.out)
  have P1_7 : Hid (w7.cell? ⟨w.heap.size + 1, 1, none⟩ = some (.int .i64 p1)) := Lib.hid (oldcell G7.out P1_6.out)
  have P2_7 : Hid (w7.cell? ⟨w.heap.size + 1, 2, none⟩ = some (.int .i64 p2)) := Lib.hid (oldcell G7.out P2_6.out)
  have P3_7 : Hid (w7.cell? ⟨w.heap.size + 1, 3, none⟩ = some (.int .i64 p3)) := Lib.hid (oldcell G7.out P3_6.out)
  have OZ0_7 : Hid (OT w7 loZ (.slice ZA0 D.length Zc0) D) := Lib.hid (own_bel OZ0_6.out G7.out)
  have OZ1_7 : Hid (OU w7 loZ (.slice ZA1 M.length Zc1) M) := Lib.hid (own_bel OZ1_6.out G7.out)
  have Q0_7 : Hid (w7.cell? ⟨bZ, 0, none⟩ = some (.slice ZA0 D.length Zc0)) := Lib.hid (oldcell G7.out Q0_6.out)
  have Q1_7 : Hid (w7.cell? ⟨bZ, 1, none⟩ = some (.slice ZA1 M.length Zc1)) := Lib.hid (oldcell G7.out Q1_6.out)
  have Q2_7 : Hid (w7.cell? ⟨bZ, 2, none⟩ = some (.int .i64 fz)) := Lib.hid (oldcell G7.out Q2_6.out)
  have Q3_7 : Hid (w7.cell? ⟨bZ, 3, none⟩ = some (.bool fo)) := Lib.hid (oldcell G7.out Q3_6.out)
  have OV0_7 : Hid (OT w7 w2.heap.size (.slice VA0 xs0_0.length xs0_0.length) xs0_0) := Lib.hid (own_bel OV0_6.out G7.out)
  have OV1_7 : Hid (OU w7 w2.heap.size (.slice VA1 xs0_1.length xs0_1.length) xs0_1) := Lib.hid (own_bel OV1_6.out G7.out)
  have K0_7 : Hid (w7.cell? ⟨w3.heap.size, 0, none⟩ = some (.slice VA0 xs0_0.length xs0_0.length)) := Lib.hid (oldcell G7.out K0_6.out)
  have K1_7 : Hid (w7.cell? ⟨w3.heap.size, 1, none⟩ = some (.slice VA1 xs0_1.length xs0_1.length)) := Lib.hid (oldcell G7.out K1_6.out)
  have K2_7 : Hid (w7.cell? ⟨w3.heap.size, 2, none⟩ = some (.int .i64 n0_2)) := Lib.hid (oldcell G7.out K2_6.out)
  have K3_7 : Hid (w7.cell? ⟨w3.heap.size, 3, none⟩ = some (.bool n0_3)) := Lib.hid (oldcell G7.out K3_6.out)
  have OY0_7 : Hid (OT w7 loY (.slice YA0 D.length Yc0) D) := Lib.hid (own_bel OY0_6.out G7.out)
  have OY1_7 : Hid (OU w7 loY (.slice YA1 M.length Yc1) M) := Lib.hid (own_bel OY1_6.out G7.out)
  have S0_7 : Hid (w7.cell? ⟨bY, 0, none⟩ = some (.slice YA0 D.length Yc0)) := Lib.hid (oldcell G7.out S0_6.out)
  have S1_7 : Hid (w7.cell? ⟨bY, 1, none⟩ = some (.slice YA1 M.length Yc1)) := Lib.hid (oldcell G7.out S1_6.out)
  have S2_7 : Hid (w7.cell? ⟨bY, 2, none⟩ = some (.int .i64 fz)) := Lib.hid (oldcell G7.out S2_6.out)
  have S3_7 : Hid (w7.cell? ⟨bY, 3, none⟩ = some (.bool fo)) := Lib.hid (oldcell G7.out S3_6.out)
  have HB7 : Hid (Below w.heap.size w w7) := Lib.hid (HB6.out.trans (G7.out.mono HB6.out.size))
  have qF0 := F0_7.out
  have qF1 := F1_7.out
  have qF2 := F2_7.out
  have qF3 := F3_7.out
  have qP0 := P0_7.out
  have qP1 := P1_7.out
  have qP2 := P2_7.out
  have qP3 := P3_7.out
  have qQ0 := Q0_7.out
  have qQ1 := Q1_7.out
  have qQ2 := Q2_7.out
  have qQ3 := Q3_7.out
  have qK0 := K0_7.out
  have qK1 := K1_7.out
  have qK2 := K2_7.out
  have qK3 := K3_7.out
  have qS0 := S0_7.out
  have qS1 := S1_7.out
  have qS2 := S2_7.out
  have qS3 := S3_7.out
  go_wp2_with fail
  clear qF0 qF1 qF2 qF3 qP0 qP1 qP2 qP3 qQ0 qQ1 qQ2 qQ3 qK0 qK1 qK2 qK3 qS0 qS1 qS2 qS3
  refine (markDisk_any (lo := w2.heap.size) (hi := w3.heap.size) OV0_7.out OV1_7.out IV0.out IV1.out XV.out (by have s0 := SZ0.out; have s1 := SZ1.out; have s2 := SZ2.out; have s3 := SZ3.out; have s4 := SZ4.out; have s5 := SZ5.out; have s6 := SZ6.out; have s7 := SZ7.out; omega) 1 (by omega) (by have h1 := SM.out.1.1; have h2 := SM.out.2.1; omega)).mono ?_
  rintro e w8 ⟨rfl, oa, ob, mm⟩
  have Mv8 : Hid (Mv w2.heap.size w3.heap.size w7 w8) := Lib.hid (mm)
  have SZ8 : Hid (w7.heap.size ≤ w8.heap.size) := Lib.hid Mv8.out.2.2.2.1
  have F0_8 : Hid (w8.cell? ⟨w.heap.size, 0, none⟩ = some (.slice A0 xs0_0.length c0)) := Lib.hid (Mv8.out.cell F0_7.out (by have s0 := SZ0.out; have s1 := SZ1.out; have s2 := SZ2.out; have s3 := SZ3.out; have s4 := SZ4.out; have s5 := SZ5.out; have s6 := SZ6.out; have s7 := SZ7.out; have s8 := SZ8.out; simp only; omega))
  have F1_8 : Hid (w8.cell? ⟨w.heap.size, 1, none⟩ = some (.slice A1 xs0_1.length c1)) := Lib.hid (Mv8.out.cell F1_7.out (by have s0 := SZ0.out; have s1 := SZ1.out; have s2 := SZ2.out; have s3 := SZ3.out; have s4 := SZ4.out; have s5 := SZ5.out; have s6 := SZ6.out; have s7 := SZ7.out; have s8 := SZ8.out; simp only; omega))
  have F2_8 : Hid (w8.cell? ⟨w.heap.size, 2, none⟩ = some (.int .i64 n0_2)) := Lib.hid (Mv8.out.cell F2_7.out (by have s0 := SZ0.out; have s1 := SZ1.out; have s2 := SZ2.out; have s3 := SZ3.out; have s4 := SZ4.out; have s5 := SZ5.out; have s6 := SZ6.out; have s7 := SZ7.out; have s8 := SZ8.out; simp only; omega))
  have F3_8 : Hid (w8.cell? ⟨w.heap.size, 3, none⟩ = some (.bool n0_3)) := Lib.hid (Mv8.out.cell F3_7.out (by have s0 := SZ0.out; have s1 := SZ1.out; have s2 := SZ2.out; have s3 := SZ3.out; have s4 := SZ4.out; have s5 := SZ5.out; have s6 := SZ6.out; have s7 := SZ7.out; have s8 := SZ8.out; simp only; omega))
  have P0_8 : Hid (w8.cell? ⟨w.heap.size + 1, 0, none⟩ = some (.int .i64 p0)) := Lib.hid (Mv8.out.cell P0_7.out (by have s0 := SZ0.out; have s1 := SZ1.out; have s2 := SZ2.out; have s3 := SZ3.out; have s4 := SZ4.out; have s5 := SZ5.out; have s6 := SZ6.out; have s7 := SZ7.out; have s8 := SZ8.out; simp only; omega))
  have P1_8 : Hid (w8.cell? ⟨w.heap.size + 1, 1, none⟩ = some (.int .i64 p1)) := Lib.hid (Mv8.out.cell P1_7.out (by have s0 := SZ0.out; have s1 := SZ1.out; have s2 := SZ2.out; have s3 := SZ3.out; have s4 := SZ4.out; have s5 := SZ5.out; have s6 := SZ6.out; have s7 := SZ7.out; have s8 := SZ8.out; simp only; omega))
  have P2_8 : Hid (w8.cell? ⟨w.heap.size + 1, 2, none⟩ = some (.int .i64 p2)) := Lib.hid (Mv8.out.cell P2_7.out (by have s0 := SZ0.out; have s1 := SZ1.out; have s2 := SZ2.out; have s3 := SZ3.out; have s4 := SZ4.out; have s5 := SZ5.out; have s6 := SZ6.out; have s7 := SZ7.out; have s8 := SZ8.out; simp only; omega))
  have P3_8 : Hid (w8.cell? ⟨w.heap.size + 1, 3, none⟩ = some (.int .i64 p3)) := Lib.hid (Mv8.out.cell P3_7.out (by have s0 := SZ0.out; have s1 := SZ1.out; have s2 := SZ2.out; have s3 := SZ3.out; have s4 := SZ4.out; have s5 := SZ5.out; have s6 := SZ6.out; have s7 := SZ7.out; have s8 := SZ8.out; simp only; omega))
  have OZ0_8 : Hid (OT w8 loZ (.slice ZA0 D.length Zc0) D) := Lib.hid (own_mv OZ0_7.out Mv8.out (fun g hg => by have := IZ0.out g hg; have s0 := SZ0.out; have s1 := SZ1.out; have s2 := SZ2.out; have s3 := SZ3.out; have s4 := SZ4.out; have s5 := SZ5.out; have s6 := SZ6.out; have s7 := SZ7.out; have s8 := SZ8.out; omega))
  have OZ1_8 : Hid (OU w8 loZ (.slice ZA1 M.length Zc1) M) := Lib.hid (own_mv OZ1_7.out Mv8.out (fun g hg => by have := IZ1.out g hg; have s0 := SZ0.out; have s1 := SZ1.out; have s2 := SZ2.out; have s3 := SZ3.out; have s4 := SZ4.out; have s5 := SZ5.out; have s6 := SZ6.out; have s7 := SZ7.out; have s8 := SZ8.out; omega))
  have Q0_8 : Hid (w8.cell? ⟨bZ, 0, none⟩ = some (.slice ZA0 D.length Zc0)) := Lib.hid (Mv8.out.cell Q0_7.out (by have s0 := SZ0.out; have s1 := SZ1.out; have s2 := SZ2.out; have s3 := SZ3.out; have s4 := SZ4.out; have s5 := SZ5.out; have s6 := SZ6.out; have s7 := SZ7.out; have s8 := SZ8.out; simp only; omega))
  have Q1_8 : Hid (w8.cell? ⟨bZ, 1, none⟩ = some (.slice ZA1 M.length Zc1)) := Lib.hid (Mv8.out.cell Q1_7.out (by have s0 := SZ0.out; have s1 := SZ1.out; have s2 := SZ2.out; have s3 := SZ3.out; have s4 := SZ4.out; have s5 := SZ5.out; have s6 := SZ6.out; have s7 := SZ7.out; have s8 := SZ8.out; simp only; omega))
  have Q2_8 : Hid (w8.cell? ⟨bZ, 2, none⟩ = some (.int .i64 fz)) := Lib.hid (Mv8.out.cell Q2_7.out (by have s0 := SZ0.out; have s1 := SZ1.out; have s2 := SZ2.out; have s3 := SZ3.out; have s4 := SZ4.out; have s5 := SZ5.out; have s6 := SZ6.out; have s7 := SZ7.out; have s8 := SZ8.out; simp only; omega))
  have Q3_8 : Hid (w8.cell? ⟨bZ, 3, none⟩ = some (.bool fo)) := Lib.hid (Mv8.out.cell Q3_7.out (by have s0 := SZ0.out; have s1 := SZ1.out; have s2 := SZ2.out; have s3 := SZ3.out; have s4 := SZ4.out; have s5 := SZ5.out; have s6 := SZ6.out; have s7 := SZ7.out; have s8 := SZ8.out; simp only; omega))
  have K0_8 : Hid (w8.cell? ⟨w3.heap.size, 0, none⟩ = some (.slice VA0 xs0_0.length xs0_0.length)) := Lib.hid (Mv8.out.cell K0_7.out (by have s0 := SZ0.out; have s1 := SZ1.out; have s2 := SZ2.out; have s3 := SZ3.out; have s4 := SZ4.out; have s5 := SZ5.out; have s6 := SZ6.out; have s7 := SZ7.out; have s8 := SZ8.out; simp only; omega))
  have K1_8 : Hid (w8.cell? ⟨w3.heap.size, 1, none⟩ = some (.slice VA1 xs0_1.length xs0_1.length)) := Lib.hid (Mv8.out.cell K1_7.out (by have s0 := SZ0.out; have s1 := SZ1.out; have s2 := SZ2.out; have s3 := SZ3.out; have s4 := SZ4.out; have s5 := SZ5.out; have s6 := SZ6.out; have s7 := SZ7.out; have s8 := SZ8.out; simp only; omega))
  have K2_8 : Hid (w8.cell? ⟨w3.heap.size, 2, none⟩ = some (.int .i64 n0_2)) := Lib.hid (Mv8.out.cell K2_7.out (by have s0 := SZ0.out; have s1 := SZ1.out; have s2 := SZ2.out; have s3 := SZ3.out; have s4 := SZ4.out; have s5 := SZ5.out; have s6 := SZ6.out; have s7 := SZ7.out; have s8 := SZ8.out; simp only; omega))
  have K3_8 : Hid (w8.cell? ⟨w3.heap.size, 3, none⟩ = some (.bool n0_3)) := Lib.hid (Mv8.out.cell K3_7.out (by have s0 := SZ0.out; have s1 := SZ1.out; have s2 := SZ2.out; have s3 := SZ3.out; have s4 := SZ4.out; have s5 := SZ5.out; have s6 := SZ6.out; have s7 := SZ7.out; have s8 := SZ8.out; simp only; omega))
  have OY0_8 : Hid (OT w8 loY (.slice YA0 D.length Yc0) D) := Lib.hid (own_mv OY0_7.out Mv8.out (fun g hg => by have := IY0.out g hg; have s0 := SZ0.out; have s1 := SZ1.out; have s2 := SZ2.out; have s3 := SZ3.out; have s4 := SZ4.out; have s5 := SZ5.out; have s6 := SZ6.out; have s7 := SZ7.out; have s8 := SZ8.out; omega))
  have OY1_8 : Hid (OU w8 loY (.slice YA1 M.length Yc1) M) := Lib.hid (own_mv OY1_7.out Mv8.out (fun g hg => by have := IY1.out g hg; have s0 := SZ0.out; have s1 := SZ1.out; have s2 := SZ2.out; have s3 := SZ3.out; have s4 := SZ4.out; have s5 := SZ5.out; have s6 := SZ6.out; have s7 := SZ7.out; have s8 := SZ8.out; omega))
  have S0_8 : Hid (w8.cell? ⟨bY, 0, none⟩ = some (.slice YA0 D.length Yc0)) := Lib.hid (Mv8.out.cell S0_7.out (by have s0 := SZ0.out; have s1 := SZ1.out; have s2 := SZ2.out; have s3 := SZ3.out; have s4 := SZ4.out; have s5 := SZ5.out; have s6 := SZ6.out; have s7 := SZ7.out; have s8 := SZ8.out; simp only; omega))
  have S1_8 : Hid (w8.cell? ⟨bY, 1, none⟩ = some (.slice YA1 M.length Yc1)) := Lib.hid (Mv8.out.cell S1_7.out (by have s0 := SZ0.out; have s1 := SZ1.out; have s2 := SZ2.out; have s3 := SZ3.out; have s4 := SZ4.out; have s5 := SZ5.out; have s6 := SZ6.out; have s7 := SZ7.out; have s8 := SZ8.out; simp only; omega))
  have S2_8 : Hid (w8.cell? ⟨bY, 2, none⟩ = some (.int .i64 fz)) := Lib.hid (Mv8.out.cell S2_7.out (by have s0 := SZ0.out; have s1 := SZ1.out; have s2 := SZ2.out; have s3 := SZ3.out; have s4 := SZ4.out; have s5 := SZ5.out; have s6 := SZ6.out; have s7 := SZ7.out; have s8 := SZ8.out; simp only; omega))
  have S3_8 : Hid (w8.cell? ⟨bY, 3, none⟩ = some (.bool fo)) := Lib.hid (Mv8.out.cell S3_7.out (by have s0 := SZ0.out; have s1 := SZ1.out; have s2 := SZ2.out; have s3 := SZ3.out; have s4 := SZ4.out; have s5 := SZ5.out; have s6 := SZ6.out; have s7 := SZ7.out; have s8 := SZ8.out; simp only; omega))
  have HB8 : Hid (Below w.heap.size w w8) := Lib.hid (Mv8.out.below HB7.out (by have s0 := SZ0.out; have s1 := SZ1.out; have s2 := SZ2.out; have s3 := SZ3.out; have s4 := SZ4.out; have s5 := SZ5.out; have s6 := SZ6.out; have s7 := SZ7.out; have s8 := SZ8.out; omega) HB7.out.size)
  clear oa ob
  have neg1 : ¬ (((1 + xs0_0.length + 2 * xs0_1.length : Nat) : Int) < 0) := by omega
  have qF0 := F0_8.out
  have qF1 := F1_8.out
  have qF2 := F2_8.out
  have qF3 := F3_8.out
  have qP0 := P0_8.out
  have qP1 := P1_8.out
  have qP2 := P2_8.out
  have qP3 := P3_8.out
  have qQ0 := Q0_8.out
  have qQ1 := Q1_8.out
  have qQ2 := Q2_8.out
  have qQ3 := Q3_8.out
  have qK0 := K0_8.out
  have qK1 := K1_8.out
  have qK2 := K2_8.out
  have qK3 := K3_8.out
  have qS0 := S0_8.out
  have qS1 := S1_8.out
  have qS2 := S2_8.out
  have qS3 := S3_8.out
  go_wp2_with fail
  clear qF0 qF1 qF2 qF3 qP0 qP1 qP2 qP3 qQ0 qQ1 qQ2 qQ3 qK0 qK1 qK2 qK3 qS0 qS1 qS2 qS3
  refine (eqDisk_any (OY0_8.out.rit ID.out) (OY1_8.out.riu IM.out) (OZ0_8.out.rit ID.out) (OZ1_8.out.riu IM.out) (Nat.le_refl _)).mono ?_
  rintro e w9 ⟨rfl, g⟩
  have G9 := Lib.hid g; have SZ9 : Hid (w8.heap.size ≤ w9.heap.size) := Lib.hid g.size; clear g
  have F0_9 : Hid (w9.cell? ⟨w.heap.size, 0, none⟩ = some (.slice A0 xs0_0.length c0)) := Lib.hid (oldcell G9.out F0_8.out)
  have F1_9 : Hid (w9.cell? ⟨w.heap.size, 1, none⟩ = some (.slice A1 xs0_1.length c1)) := Lib.hid (oldcell G9.out F1_8.out)
  have F2_9 : Hid (w9.cell? ⟨w.heap.size, 2, none⟩ = some (.int .i64 n0_2)) := Lib.hid (oldcell G9.out F2_8.out)
  have F3_9 : Hid (w9.cell? ⟨w.heap.size, 3, none⟩ = some (.bool n0_3)) := Lib.hid (oldcell G9.out F3_8.out)
  have P0_9 : Hid (w9.cell? ⟨w.heap.size + 1, 0, none⟩ = some (.int .i64 p0)) := Lib.hid (oldcell G9.out P0_8.out)
  have P1_9 : Hid (w9.cell? ⟨w.heap.size + 1, 1, none⟩ = some (.int .i64 p1)) := Lib.hid (oldcell G9.out P1_8.out)
  have P2_9 : Hid (w9.cell? ⟨w.heap.size + 1, 2, none⟩ = some (.int .i64 p2)) := Lib.hid (oldcell G9.out P2_8.out)
  have P3_9 : Hid (w9.cell? ⟨w.heap.size + 1, 3, none⟩ = some (.int .i64 p3)) := Lib.hid (oldcell G9.out P3_8.out)
  have OZ0_9 : Hid (OT w9 loZ (.slice ZA0 D.length Zc0) D) := Lib.hid (own_bel OZ0_8.out G9.out)
  have OZ1_9 : Hid (OU w9 loZ (.slice ZA1 M.length Zc1) M) := Lib.hid (own_bel OZ1_8.out G9.out)
  have Q0_9 : Hid (w9.cell? ⟨bZ, 0, none⟩ = some (.slice ZA0 D.length Zc0)) := Lib.hid (oldcell G9.out Q0_8.out)
  have Q1_9 : Hid (w9.cell? ⟨bZ, 1, none⟩ = some (.slice ZA1 M.length Zc1)) := Lib.hid (oldcell G9.out Q1_8.out)
  have Q2_9 : Hid (w9.cell? ⟨bZ, 2, none⟩ = some (.int .i64 fz)) := Lib.hid (oldcell G9.out Q2_8.out)
  have Q3_9 : Hid (w9.cell? ⟨bZ, 3, none⟩ = some (.bool fo)) := Lib.hid (oldcell G9.out Q3_8.out)
  have K0_9 : Hid (w9.cell? ⟨w3.heap.size, 0, none⟩ = some (.slice VA0 xs0_0.length xs0_0.length)) := Lib.hid (oldcell G9.out K0_8.out)
  have K1_9 : Hid (w9.cell? ⟨w3.heap.size, 1, none⟩ = some (.slice VA1 xs0_1.length xs0_1.length)) := Lib.hid (oldcell G9.out K1_8.out)
  have K2_9 : Hid (w9.cell? ⟨w3.heap.size, 2, none⟩ = some (.int .i64 n0_2)) := Lib.hid (oldcell G9.out K2_8.out)
  have K3_9 : Hid (w9.cell? ⟨w3.heap.size, 3, none⟩ = some (.bool n0_3)) := Lib.hid (oldcell G9.out K3_8.out)
  have OY0_9 : Hid (OT w9 loY (.slice YA0 D.length Yc0) D) := Lib.hid (own_bel OY0_8.out G9.out)
  have OY1_9 : Hid (OU w9 loY (.slice YA1 M.length Yc1) M) := Lib.hid (own_bel OY1_8.out G9.out)
  have S0_9 : Hid (w9.cell? ⟨bY, 0, none⟩ = some (.slice YA0 D.length Yc0)) := Lib.hid (oldcell G9.out S0_8.out)
  have S1_9 : Hid (w9.cell? ⟨bY, 1, none⟩ = some (.slice YA1 M.length Yc1)) := Lib.hid (oldcell G9.out S1_8.out)
  have S2_9 : Hid (w9.cell? ⟨bY, 2, none⟩ = some (.int .i64 fz)) := Lib.hid (oldcell G9.out S2_8.out)
  have S3_9 : Hid (w9.cell? ⟨bY, 3, none⟩ = some (.bool fo)) := Lib.hid (oldcell G9.out S3_8.out)
  have HB9 : Hid (Below w.heap.size w w9) := Lib.hid (HB8.out.trans (G9.out.mono HB8.out.size))
  have qF0 := F0_9.out
  have qF1 := F1_9.out
  have qF2 := F2_9.out
  have qF3 := F3_9.out
  have qP0 := P0_9.out
  have qP1 := P1_9.out
  have qP2 := P2_9.out
  have qP3 := P3_9.out
  have qQ0 := Q0_9.out
  have qQ1 := Q1_9.out
  have qQ2 := Q2_9.out
  have qQ3 := Q3_9.out
  have qK0 := K0_9.out
  have qK1 := K1_9.out
  have qK2 := K2_9.out
  have qK3 := K3_9.out
  have qS0 := S0_9.out
  have qS1 := S1_9.out
  have qS2 := S2_9.out
  have qS3 := S3_9.out
  go_wp2_with fail
  clear qF0 qF1 qF2 qF3 qP0 qP1 qP2 qP3 qQ0 qQ1 qQ2 qQ3 qK0 qK1 qK2 qK3 qS0 qS1 qS2 qS3
  refine (markDisk_any (lo := loY) (hi := hiY) OY0_9.out OY1_9.out IY0.out IY1.out XY.out (by have s0 := SZ0.out; have s1 := SZ1.out; have s2 := SZ2.out; have s3 := SZ3.out; have s4 := SZ4.out; have s5 := SZ5.out; have s6 := SZ6.out; have s7 := SZ7.out; have s8 := SZ8.out; have s9 := SZ9.out; omega) 1 (by omega) (by have h1 := LD.out; have h2 := LM.out; omega)).mono ?_
  rintro e w10 ⟨rfl, oa, ob, mm⟩
  have Mv10 : Hid (Mv loY hiY w9 w10) := Lib.hid (mm)
  have SZ10 : Hid (w9.heap.size ≤ w10.heap.size) := Lib.hid Mv10.out.2.2.2.1
  have F0_10 : Hid (w10.cell? ⟨w.heap.size, 0, none⟩ = some (.slice A0 xs0_0.length c0)) := Lib.hid (Mv10.out.cell F0_9.out (by have s0 := SZ0.out; have s1 := SZ1.out; have s2 := SZ2.out; have s3 := SZ3.out; have s4 := SZ4.out; have s5 := SZ5.out; have s6 := SZ6.out; have s7 := SZ7.out; have s8 := SZ8.out; have s9 := SZ9.out; have s10 := SZ10.out; simp only; omega))
  have F1_10 : Hid (w10.cell? ⟨w.heap.size, 1, none⟩ = some (.slice A1 xs0_1.length c1)) := Lib.hid (Mv10.out.cell F1_9.out (by have s0 := SZ0.out; have s1 := SZ1.out; have s2 := SZ2.out; have s3 := SZ3.out; have s4 := SZ4.out; have s5 := SZ5.out; have s6 := SZ6.out; have s7 := SZ7.out; have s8 := SZ8.out; have s9 := SZ9.out; have s10 := SZ10.out; simp only; omega))
  have F2_10 : Hid (w10.cell? ⟨w.heap.size, 2, none⟩ = some (.int .i64 n0_2)) := Lib.hid (Mv10.out.cell F2_9.out (by have s0 := SZ0.out; have s1 := SZ1.out; have s2 := SZ2.out; have s3 := SZ3.out; have s4 := SZ4.out; have s5 := SZ5.out; have s6 := SZ6.out; have s7 := SZ7.out; have s8 := SZ8.out; have s9 := SZ9.out; have s10 := SZ10.out; simp only; omega))
  have F3_10 : Hid (w10.cell? ⟨w.heap.size, 3, none⟩ = some (.bool n0_3)) := Lib.hid (Mv10.out.cell F3_9.out (by have s0 := SZ0.out; have s1 := SZ1.out; have s2 := SZ2.out; have s3 := SZ3.out; have s4 := SZ4.out; have s5 := SZ5.out; have s6 := SZ6.out; have s7 := SZ7.out; have s8 := SZ8.out; have s9 := SZ9.out; have s10 := SZ10.out; simp only; omega))
  have P0_10 : Hid (w10.cell? ⟨w.heap.size + 1, 0, none⟩ = some (.int .i64 p0)) := Lib.hid (Mv10.out.cell P0_9.out (by have s0 := SZ0.out; have s1 := SZ1.out; have s2 := SZ2.out; have s3 := SZ3.out; have s4 := SZ4.out; have s5 := SZ5.out; have s6 := SZ6.out; have s7 := SZ7.out; have s8 := SZ8.out; have s9 := SZ9.out; have s10 := SZ10.out; simp only; omega))
  have P1_10 : Hid (w10.cell? ⟨w.heap.size + 1, 1, none⟩ = some (.int .i64 p1)) := Lib.hid (Mv10.out.cell P1_9.out (by have s0 := SZ0.out; have s1 := SZ1.out; have s2 := SZ2.out; have s3 := SZ3.out; have s4 := SZ4.out; have s5 := SZ5.out; have s6 := SZ6.out; have s7 := SZ7.out; have s8 := SZ8.out; have s9 := SZ9.out; have s10 := SZ10.out; simp only; omega))
  have P2_10 : Hid (w10.cell? ⟨w.heap.size + 1, 2, none⟩ = some (.int .i64 p2)) := Lib.hid (Mv10.out.cell P2_9.out (by have s0 := SZ0.out; have s1 := SZ1.out; have s2 := SZ2.out; have s3 := SZ3.out; have s4 := SZ4.out; have s5 := SZ5.out; have s6 := SZ6.out; have s7 := SZ7.out; have s8 := SZ8.out; have s9 := SZ9.out; have s10 := SZ10.out; simp only; omega))
  have P3_10 : Hid (w10.cell? ⟨w.heap.size + 1, 3, none⟩ = some (.int .i64 p3)) := Lib.hid (Mv10.out.cell P3_9.out (by have s0 := SZ0.out; have s1 := SZ1.out; have s2 := SZ2.out; have s3 := SZ3.out; have s4 := SZ4.out; have s5 := SZ5.out; have s6 := SZ6.out; have s7 := SZ7.out; have s8 := SZ8.out; have s9 := SZ9.out; have s10 := SZ10.out; simp only; omega))
  have OZ0_10 : Hid (OT w10 loZ (.slice ZA0 D.length Zc0) D) := Lib.hid (own_mv OZ0_9.out Mv10.out (fun g hg => by have := IZ0.out g hg; have s0 := SZ0.out; have s1 := SZ1.out; have s2 := SZ2.out; have s3 := SZ3.out; have s4 := SZ4.out; have s5 := SZ5.out; have s6 := SZ6.out; have s7 := SZ7.out; have s8 := SZ8.out; have s9 := SZ9.out; have s10 := SZ10.out; omega))
  have OZ1_10 : Hid (OU w10 loZ (.slice ZA1 M.length Zc1) M) := Lib.hid (own_mv OZ1_9.out Mv10.out (fun g hg => by have := IZ1.out g hg; have s0 := SZ0.out; have s1 := SZ1.out; have s2 := SZ2.out; have s3 := SZ3.out; have s4 := SZ4.out; have s5 := SZ5.out; have s6 := SZ6.out; have s7 := SZ7.out; have s8 := SZ8.out; have s9 := SZ9.out; have s10 := SZ10.out; omega))
  have Q0_10 : Hid (w10.cell? ⟨bZ, 0, none⟩ = some (.slice ZA0 D.length Zc0)) := Lib.hid (Mv10.out.cell Q0_9.out (by have s0 := SZ0.out; have s1 := SZ1.out; have s2 := SZ2.out; have s3 := SZ3.out; have s4 := SZ4.out; have s5 := SZ5.out; have s6 := SZ6.out; have s7 := SZ7.out; have s8 := SZ8.out; have s9 := SZ9.out; have s10 := SZ10.out; simp only; omega))
  have Q1_10 : Hid (w10.cell? ⟨bZ, 1, none⟩ = some (.slice ZA1 M.length Zc1)) := Lib.hid (Mv10.out.cell Q1_9.out (by have s0 := SZ0.out; have s1 := SZ1.out; have s2 := SZ2.out; have s3 := SZ3.out; have s4 := SZ4.out; have s5 := SZ5.out; have s6 := SZ6.out; have s7 := SZ7.out; have s8 := SZ8.out; have s9 := SZ9.out; have s10 := SZ10.out; simp only; omega))
  have Q2_10 : Hid (w10.cell? ⟨bZ, 2, none⟩ = some (.int .i64 fz)) := Lib.hid (Mv10.out.cell Q2_9.out (by have s0 := SZ0.out; have s1 := SZ1.out; have s2 := SZ2.out; have s3 := SZ3.out; have s4 := SZ4.out; have s5 := SZ5.out; have s6 := SZ6.out; have s7 := SZ7.out; have s8 := SZ8.out; have s9 := SZ9.out; have s10 := SZ10.out; simp only; omega))
  have Q3_10 : Hid (w10.cell? ⟨bZ, 3, none⟩ = some (.bool fo)) := Lib.hid (Mv10.out.cell Q3_9.out (by have s0 := SZ0.out; have s1 := SZ1.out; have s2 := SZ2.out; have s3 := SZ3.out; have s4 := SZ4.out; have s5 := SZ5.out; have s6 := SZ6.out; have s7 := SZ7.out; have s8 := SZ8.out; have s9 := SZ9.out; have s10 := SZ10.out; simp only; omega))
  have K0_10 : Hid (w10.cell? ⟨w3.heap.size, 0, none⟩ = some (.slice VA0 xs0_0.length xs0_0.length)) := Lib.hid (Mv10.out.cell K0_9.out (by have s0 := SZ0.out; have s1 := SZ1.out; have s2 := SZ2.out; have s3 := SZ3.out; have s4 := SZ4.out; have s5 := SZ5.out; have s6 := SZ6.out; have s7 := SZ7.out; have s8 := SZ8.out; have s9 := SZ9.out; have s10 := SZ10.out; simp only; omega))
  have K1_10 : Hid (w10.cell? ⟨w3.heap.size, 1, none⟩ = some (.slice VA1 xs0_1.length xs0_1.length)) := Lib.hid (Mv10.out.cell K1_9.out (by have s0 := SZ0.out; have s1 := SZ1.out; have s2 := SZ2.out; have s3 := SZ3.out; have s4 := SZ4.out; have s5 := SZ5.out; have s6 := SZ6.out; have s7 := SZ7.out; have s8 := SZ8.out; have s9 := SZ9.out; have s10 := SZ10.out; simp only; omega))
  have K2_10 : Hid (w10.cell? ⟨w3.heap.size, 2, none⟩ = some (.int .i64 n0_2)) := Lib.hid (Mv10.out.cell K2_9.out (by have s0 := SZ0.out; have s1 := SZ1.out; have s2 := SZ2.out; have s3 := SZ3.out; have s4 := SZ4.out; have s5 := SZ5.out; have s6 := SZ6.out; have s7 := SZ7.out; have s8 := SZ8.out; have s9 := SZ9.out; have s10 := SZ10.out; simp only; omega))
  have K3_10 : Hid (w10.cell? ⟨w3.heap.size, 3, none⟩ = some (.bool n0_3)) := Lib.hid (Mv10.out.cell K3_9.out (by have s0 := SZ0.out; have s1 := SZ1.out; have s2 := SZ2.out; have s3 := SZ3.out; have s4 := SZ4.out; have s5 := SZ5.out; have s6 := SZ6.out; have s7 := SZ7.out; have s8 := SZ8.out; have s9 := SZ9.out; have s10 := SZ10.out; simp only; omega))
  have S0_10 : Hid (w10.cell? ⟨bY, 0, none⟩ = some (.slice YA0 D.length Yc0)) := Lib.hid (Mv10.out.cell S0_9.out (by have s0 := SZ0.out; have s1 := SZ1.out; have s2 := SZ2.out; have s3 := SZ3.out; have s4 := SZ4.out; have s5 := SZ5.out; have s6 := SZ6.out; have s7 := SZ7.out; have s8 := SZ8.out; have s9 := SZ9.out; have s10 := SZ10.out; simp only; omega))
  have S1_10 : Hid (w10.cell? ⟨bY, 1, none⟩ = some (.slice YA1 M.length Yc1)) := Lib.hid (Mv10.out.cell S1_9.out (by have s0 := SZ0.out; have s1 := SZ1.out; have s2 := SZ2.out; have s3 := SZ3.out; have s4 := SZ4.out; have s5 := SZ5.out; have s6 := SZ6.out; have s7 := SZ7.out; have s8 := SZ8.out; have s9 := SZ9.out; have s10 := SZ10.out; simp only; omega))
  have S2_10 : Hid (w10.cell? ⟨bY, 2, none⟩ = some (.int .i64 fz)) := Lib.hid (Mv10.out.cell S2_9.out (by have s0 := SZ0.out; have s1 := SZ1.out; have s2 := SZ2.out; have s3 := SZ3.out; have s4 := SZ4.out; have s5 := SZ5.out; have s6 := SZ6.out; have s7 := SZ7.out; have s8 := SZ8.out; have s9 := SZ9.out; have s10 := SZ10.out; simp only; omega))
  have S3_10 : Hid (w10.cell? ⟨bY, 3, none⟩ = some (.bool fo)) := Lib.hid (Mv10.out.cell S3_9.out (by have s0 := SZ0.out; have s1 := SZ1.out; have s2 := SZ2.out; have s3 := SZ3.out; have s4 := SZ4.out; have s5 := SZ5.out; have s6 := SZ6.out; have s7 := SZ7.out; have s8 := SZ8.out; have s9 := SZ9.out; have s10 := SZ10.out; simp only; omega))
  have HB10 : Hid (Below w.heap.size w w10) := Lib.hid (Mv10.out.below HB9.out (by have s0 := SZ0.out; have s1 := SZ1.out; have s2 := SZ2.out; have s3 := SZ3.out; have s4 := SZ4.out; have s5 := SZ5.out; have s6 := SZ6.out; have s7 := SZ7.out; have s8 := SZ8.out; have s9 := SZ9.out; have s10 := SZ10.out; omega) HB9.out.size)
  have OY0_10 : Hid (OT w10 loY (.slice YA0 D.length Yc0) (marksT 1 D.length)) := Lib.hid oa; have OY1_10 : Hid (OU w10 loY (.slice YA1 M.length Yc1) (marksU (1 + D.length) M.length)) := Lib.hid ob; clear oa ob
  have neg2 : ¬ (((1 + D.length + 2 * M.length : Nat) : Int) < 0) := by omega
  have qF0 := F0_10.out
  have qF1 := F1_10.out
  have qF2 := F2_10.out
  have qF3 := F3_10.out
  have qP0 := P0_10.out
  have qP1 := P1_10.out
  have qP2 := P2_10.out
  have qP3 := P3_10.out
  have qQ0 := Q0_10.out
  have qQ1 := Q1_10.out
  have qQ2 := Q2_10.out
  have qQ3 := Q3_10.out
  have qK0 := K0_10.out
  have qK1 := K1_10.out
  have qK2 := K2_10.out
  have qK3 := K3_10.out
  have qS0 := S0_10.out
  have qS1 := S1_10.out
  have qS2 := S2_10.out
  have qS3 := S3_10.out
  go_wp2_with fail
  clear qF0 qF1 qF2 qF3 qP0 qP1 qP2 qP3 qQ0 qQ1 qQ2 qQ3 qK0 qK1 qK2 qK3 qS0 qS1 qS2 qS3
  refine (heldDisk_any 1 OY0_10.out OY1_10.out (by omega) (by have h1 := LD.out; have h2 := LM.out; omega)).mono ?_
  rintro e w11 ⟨rfl, g⟩
  have G11 := Lib.hid g; have SZ11 : Hid (w10.heap.size ≤ w11.heap.size) := Lib.hid g.size; clear g
  have F0_11 : Hid (w11.cell? ⟨w.heap.size, 0, none⟩ = some (.slice A0 xs0_0.length c0)) := Lib.hid (oldcell G11.out F0_10.out)
  have F1_11 : Hid (w11.cell? ⟨w.heap.size, 1, none⟩ = some (.slice A1 xs0_1.length c1)) := Lib.hid (oldcell G11.out F1_10.out)
  have F2_11 : Hid (w11.cell? ⟨w.heap.size, 2, none⟩ = some (.int .i64 n0_2)) := Lib.hid (oldcell G11.out F2_10.out)
  have F3_11 : Hid (w11.cell? ⟨w.heap.size, 3, none⟩ = some (.bool n0_3)) := Lib.hid (oldcell G11.out F3_10.out)
  have P0_11 : Hid (w11.cell? ⟨w.heap.size + 1, 0, none⟩ = some (.int .i64 p0)) := Lib.hid (oldcell G11.out P0_10.out)
  have P1_11 : Hid (w11.cell? ⟨w.heap.size + 1, 1, none⟩ = some (.int .i64 p1)) := Lib.hid (oldcell G11.out P1_10.out)
  have P2_11 : Hid (w11.cell? ⟨w.heap.size + 1, 2, none⟩ = some (.int .i64 p2)) := Lib.hid (oldcell G11.out P2_10.out)
  have P3_11 : Hid (w11.cell? ⟨w.heap.size + 1, 3, none⟩ = some (.int .i64 p3)) := Lib.hid (oldcell G11.out P3_10.out)
  have OZ0_11 : Hid (OT w11 loZ (.slice ZA0 D.length Zc0) D) := Lib.hid (own_bel OZ0_10.out G11.out)
  have OZ1_11 : Hid (OU w11 loZ (.slice ZA1 M.length Zc1) M) := Lib.hid (own_bel OZ1_10.out G11.out)
  have Q0_11 : Hid (w11.cell? ⟨bZ, 0, none⟩ = some (.slice ZA0 D.length Zc0)) := Lib.hid (oldcell G11.out Q0_10.out)
  have Q1_11 : Hid (w11.cell? ⟨bZ, 1, none⟩ = some (.slice ZA1 M.length Zc1)) := Lib.hid (oldcell G11.out Q1_10.out)
  have Q2_11 : Hid (w11.cell? ⟨bZ, 2, none⟩ = some (.int .i64 fz)) := Lib.hid (oldcell G11.out Q2_10.out)
  have Q3_11 : Hid (w11.cell? ⟨bZ, 3, none⟩ = some (.bool fo)) := Lib.hid (oldcell G11.out Q3_10.out)
  have K0_11 : Hid (w11.cell? ⟨w3.heap.size, 0, none⟩ = some (.slice VA0 xs0_0.length xs0_0.length)) := Lib.hid (oldcell G11.out K0_10.out)
  have K1_11 : Hid (w11.cell? ⟨w3.heap.size, 1, none⟩ = some (.slice VA1 xs0_1.length xs0_1.length)) := Lib.hid (oldcell G11.out K1_10.out)
  have K2_11 : Hid (w11.cell? ⟨w3.heap.size, 2, none⟩ = some (.int .i64 n0_2)) := Lib.hid (oldcell G11.out K2_10.out)
  have K3_11 : Hid (w11.cell? ⟨w3.heap.size, 3, none⟩ = some (.bool n0_3)) := Lib.hid (oldcell G11.out K3_10.out)
  have S0_11 : Hid (w11.cell? ⟨bY, 0, none⟩ = some (.slice YA0 D.length Yc0)) := Lib.hid (oldcell G11.out S0_10.out)
  have S1_11 : Hid (w11.cell? ⟨bY, 1, none⟩ = some (.slice YA1 M.length Yc1)) := Lib.hid (oldcell G11.out S1_10.out)
  have S2_11 : Hid (w11.cell? ⟨bY, 2, none⟩ = some (.int .i64 fz)) := Lib.hid (oldcell G11.out S2_10.out)
  have S3_11 : Hid (w11.cell? ⟨bY, 3, none⟩ = some (.bool fo)) := Lib.hid (oldcell G11.out S3_10.out)
  have OY0_11 : Hid (OT w11 loY (.slice YA0 D.length Yc0) (marksT 1 D.length)) := Lib.hid (own_bel OY0_10.out G11.out)
  have OY1_11 : Hid (OU w11 loY (.slice YA1 M.length Yc1) (marksU (1 + D.length) M.length)) := Lib.hid (own_bel OY1_10.out G11.out)
  have HB11 : Hid (Below w.heap.size w w11) := Lib.hid (HB10.out.trans (G11.out.mono HB10.out.size))
  have qF0 := F0_11.out
  have qF1 := F1_11.out
  have qF2 := F2_11.out
  have qF3 := F3_11.out
  have qP0 := P0_11.out
  have qP1 := P1_11.out
  have qP2 := P2_11.out
  have qP3 := P3_11.out
  have qQ0 := Q0_11.out
  have qQ1 := Q1_11.out
  have qQ2 := Q2_11.out
  have qQ3 := Q3_11.out
  have qK0 := K0_11.out
  have qK1 := K1_11.out
  have qK2 := K2_11.out
  have qK3 := K3_11.out
  have qS0 := S0_11.out
  have qS1 := S1_11.out
  have qS2 := S2_11.out
  have qS3 := S3_11.out
  go_wp2
  clear qF0 qF1 qF2 qF3 qP0 qP1 qP2 qP3 qQ0 qQ1 qQ2 qQ3 qK0 qK1 qK2 qK3 qS0 qS1 qS2 qS3
  have HSC : Hid (∀ W, Below w11.heap.size w11 W → W.cell? ⟨w.heap.size, 0, none⟩ = some (.slice A0 xs0_0.length c0) ∧ W.cell? ⟨w.heap.size, 1, none⟩ = some (.slice A1 xs0_1.length c1) ∧ W.cell? ⟨w.heap.size, 2, none⟩ = some (.int .i64 n0_2) ∧ W.cell? ⟨w.heap.size, 3, none⟩ = some (.bool n0_3) ∧ W.cell? ⟨w.heap.size + 1, 0, none⟩ = some (.int .i64 p0) ∧ W.cell? ⟨w.heap.size + 1, 1, none⟩ = some (.int .i64 p1) ∧ W.cell? ⟨w.heap.size + 1, 2, none⟩ = some (.int .i64 p2) ∧ W.cell? ⟨w.heap.size + 1, 3, none⟩ = some (.int .i64 p3)) := Lib.hid (fun W hW => ⟨oldcell hW F0_11.out, oldcell hW F1_11.out, oldcell hW F2_11.out, oldcell hW F3_11.out, oldcell hW P0_11.out, oldcell hW P1_11.out, oldcell hW P2_11.out, oldcell hW P3_11.out⟩)
  have HDrC : Hid (Below w11.heap.size w11 w11.drew) := Lib.hid (Below.refl _ _).drew
  apply wp_drawn w11 30 D M fz fo
  · refine wp_region_held_drew (S := fun W => W.cell? ⟨w.heap.size, 0, none⟩ = some (.slice A0 xs0_0.length c0) ∧ W.cell? ⟨w.heap.size, 1, none⟩ = some (.slice A1 xs0_1.length c1) ∧ W.cell? ⟨w.heap.size, 2, none⟩ = some (.int .i64 n0_2) ∧ W.cell? ⟨w.heap.size, 3, none⟩ = some (.bool n0_3) ∧ W.cell? ⟨w.heap.size + 1, 0, none⟩ = some (.int .i64 p0) ∧ W.cell? ⟨w.heap.size + 1, 1, none⟩ = some (.int .i64 p1) ∧ W.cell? ⟨w.heap.size + 1, 2, none⟩ = some (.int .i64 p2) ∧ W.cell? ⟨w.heap.size + 1, 3, none⟩ = some (.int .i64 p3)) (by kernel_rfl) (HSC.out _ HDrC.out) (fun hHeld => ?_)
    refine held_yes 0 (some 80) rfl rfl (by kernel_rfl) (by kernel_rfl) (by kernel_rfl) (fun _ _ _ h => h) (by kernel_rfl) hHeld (v := ?_) (fun wz hSw => ?_) ?_
    rotate_left 1
    · (try dsimp only at hSw); go_simp; (try with_reducible rfl)
    try simp only [Act.put, List.setIfInBounds_toArray, List.set_cons_zero, List.set_cons_succ]
    refine held_yes 2 (some 82) rfl rfl (by kernel_rfl) (by kernel_rfl) (by kernel_rfl) (fun _ _ _ h => h) (by kernel_rfl) hHeld (v := ?_) (fun wz hSw => ?_) ?_
    rotate_left 1
    · (try dsimp only at hSw); go_simp; (try with_reducible rfl)
    try simp only [Act.put, List.setIfInBounds_toArray, List.set_cons_zero, List.set_cons_succ]
    refine wpAnyH_ready (rs := [1, 8]) (by kernel_rfl) (by simp) ?_
    refine AllReadyH.cons rfl (fun K hK => ?_) (AllReadyH.cons rfl (fun K hK => ?_) AllReadyH.nil)
    · skip
      go_simp
      go_at_call 21
      go_fit (toDisk_any (Ha.out.at (Nat.le_refl _) (HB11.out.trans ((HDrC.out).mono HB11.out.size))) (Hb.out.at (Nat.le_refl _) (HB11.out.trans ((HDrC.out).mono HB11.out.size))) (Nat.le_refl _) SM.out.1 SM.out.2)
      rintro e u1C ⟨T0, T1, rfl, ra, rb, -, g⟩
      have RT0 := Lib.hid ra; have RT1 := Lib.hid rb; clear ra rb
      have kb1 : Below w11.heap.size w11 u1C := (HDrC.out).trans (g.mono (HDrC.out).size)
      have g1 := g; clear g
      refine hK.out _ _ (HSC.out _ kb1) (fun hHeld => ?_)
      clear hK K
      try simp only [Act.put, List.setIfInBounds_toArray, List.set_cons_zero, List.set_cons_succ]
      refine wpAnyH_ready (rs := [3, 8]) (by kernel_rfl) (by simp) ?_
      refine AllReadyH.cons rfl (fun K hK => ?_) (AllReadyH.cons rfl (fun K hK => ?_) AllReadyH.nil)
      · skip
        go_simp
        go_at_call 44
        go_fit (toSuper_any p0 p1 p2 p3 _)
        rintro e u2C ⟨rfl, g⟩
        skip
        have kb2 : Below w11.heap.size w11 u2C := (kb1).trans (g.mono (kb1).size)
        have g2 := g; clear g
        refine hK.out _ _ (HSC.out _ kb2) (fun hHeld => ?_)
        clear hK K
        try simp only [Act.put, List.setIfInBounds_toArray, List.set_cons_zero, List.set_cons_succ]
        refine wpAnyH_ready (rs := [4, 8]) (by kernel_rfl) (by simp) ?_
        refine AllReadyH.cons rfl (fun K hK => ?_) (AllReadyH.cons rfl (fun K hK => ?_) AllReadyH.nil)
        · skip
          go_simp
          have kT : Below u1C.heap.size u1C (u2C) := g2
          go_at_call 54
          go_fit (P0.out _ _ _ (OT.rit (own_bel RT0.out kT) IDa.out) (OU.riu (own_bel RT1.out kT) IMa.out))
          rintro e u3C ⟨Z0, Z1, d0, d1, rfl, oa, ob, hap, g⟩
          skip
          have kb3 : Below w11.heap.size w11 u3C := (kb2).trans (g.mono (kb2).size)
          have g3 := g; clear g
          refine hK.out _ _ (HSC.out _ kb3) (fun hHeld => ?_)
          clear hK K
          try simp only [Act.put, List.setIfInBounds_toArray, List.set_cons_zero, List.set_cons_succ]
          refine held_yes 5 (some 79) rfl rfl (by kernel_rfl) (by kernel_rfl) (by kernel_rfl) (fun _ _ _ h => h) (by kernel_rfl) hHeld (v := ?_) (fun wz hSw => ?_) ?_
          rotate_left 1
          · (try dsimp only at hSw); go_simp; (try with_reducible rfl)
          try simp only [Act.put, List.setIfInBounds_toArray, List.set_cons_zero, List.set_cons_succ]
          refine held_yes 6 (some 85) rfl rfl (by kernel_rfl) (by kernel_rfl) (by kernel_rfl) (fun _ _ _ h => h) (by kernel_rfl) hHeld (v := ?_) (fun wz hSw => ?_) ?_
          rotate_left 1
          · (try dsimp only at hSw); go_simp; (try with_reducible rfl)
          try simp only [Act.put, List.setIfInBounds_toArray, List.set_cons_zero, List.set_cons_succ]
          refine held_yes 7 (some 86) rfl rfl (by kernel_rfl) (by kernel_rfl) (by kernel_rfl) (fun _ _ _ h => h) (by kernel_rfl) hHeld (v := ?_) (fun wz hSw => ?_) ?_
          rotate_left 1
          · (try dsimp only at hSw); go_simp; (try with_reducible rfl)
          try simp only [Act.put, List.setIfInBounds_toArray, List.set_cons_zero, List.set_cons_succ]
          refine wpAnyH_ready (rs := [8]) (by kernel_rfl) (by simp) ?_
          refine AllReadyH.cons rfl (fun K hK => ?_) AllReadyH.nil
          go_simp
          have kbA := (kb3).alloc (kb3).size (.cells #[.slice none 0 0, .slice none 0 0, .int .i64 0, .bool false] 30)
          have ryA : Four (u3C.alloc (.cells #[.slice none 0 0, .slice none 0 0, .int .i64 0, .bool false] 30)) u3C.heap.size 30 (.slice none 0 0) (.slice none 0 0) (.int .i64 0) (.bool false) := Four.new _ _ _ _ _ _
          refine hK.out _ _ (HSC.out _ kbA) (fun hHeld => ?_)
          clear hK K
          try simp only [Act.put, List.setIfInBounds_toArray, List.set_cons_zero, List.set_cons_succ]
          have y0 := (ryA).c0; have y1 := (ryA).c1; have y2 := (ryA).c2; have y3 := (ryA).c3; have y4 := (ryA).f 0; have y5 := (ryA).f 1; have y6 := (ryA).f 2; have y7 := (ryA).f 3
          refine wpAnyH_ready (rs := [9]) (by kernel_rfl) (by simp) ?_
          refine AllReadyH.cons rfl (fun K hK => ?_) AllReadyH.nil
          go_simp
          have F := finC (t := 30) (fz := fz) (off := fo) kb3 oa ob hap (kb2.size)
          refine hK.out _ _ (HSC.out _ F.2.2.2.2.1) (fun hHeld => ?_)
          clear hK K y0 y1 y2 y3 y4 y5 y6 y7
          try simp only [Act.put, List.setIfInBounds_toArray, List.set_cons_zero, List.set_cons_succ]
          refine held_yes 10 (some 15) rfl rfl (by kernel_rfl) (by kernel_rfl) (by kernel_rfl) (fun _ _ _ h => h) (by kernel_rfl) hHeld (v := ?_) (fun wz hSw => ?_) ?_
          rotate_left 1
          · (try dsimp only at hSw); go_simp; (try with_reducible rfl)
          try simp only [Act.put, List.setIfInBounds_toArray, List.set_cons_zero, List.set_cons_succ]
          refine wpAnyH_done (by kernel_rfl) ?_ _
          revert F
          generalize u3C.heap.size = b6
          intro F
          exact ⟨T0, T1, Z0, Z1, d0, d1, b6, _, _, rfl, F⟩
        · skip
          go_simp
          have kbA := (kb2).alloc (kb2).size (.cells #[.slice none 0 0, .slice none 0 0, .int .i64 0, .bool false] 30)
          have ryA : Four (u2C.alloc (.cells #[.slice none 0 0, .slice none 0 0, .int .i64 0, .bool false] 30)) u2C.heap.size 30 (.slice none 0 0) (.slice none 0 0) (.int .i64 0) (.bool false) := Four.new _ _ _ _ _ _
          refine hK.out _ _ (HSC.out _ kbA) (fun hHeld => ?_)
          clear hK K
          try simp only [Act.put, List.setIfInBounds_toArray, List.set_cons_zero, List.set_cons_succ]
          refine wpAnyH_ready (rs := [4]) (by kernel_rfl) (by simp) ?_
          refine AllReadyH.cons rfl (fun K hK => ?_) AllReadyH.nil
          go_simp
          have kT : Below u1C.heap.size u1C (u2C.alloc (.cells #[.slice none 0 0, .slice none 0 0, .int .i64 0, .bool false] 30)) := g2.alloc g2.size _
          go_at_call 54
          go_fit (P0.out _ _ _ (OT.rit (own_bel RT0.out kT) IDa.out) (OU.riu (own_bel RT1.out kT) IMa.out))
          rintro e u3C ⟨Z0, Z1, d0, d1, rfl, oa, ob, hap, g⟩
          skip
          have kb3 : Below w11.heap.size w11 u3C := (kbA).trans (g.mono (kbA).size)
          have ry3 := (ryA).keep g
          have g3 := g; clear g
          refine hK.out _ _ (HSC.out _ kb3) (fun hHeld => ?_)
          clear hK K
          try simp only [Act.put, List.setIfInBounds_toArray, List.set_cons_zero, List.set_cons_succ]
          refine held_yes 5 (some 79) rfl rfl (by kernel_rfl) (by kernel_rfl) (by kernel_rfl) (fun _ _ _ h => h) (by kernel_rfl) hHeld (v := ?_) (fun wz hSw => ?_) ?_
          rotate_left 1
          · (try dsimp only at hSw); go_simp; (try with_reducible rfl)
          try simp only [Act.put, List.setIfInBounds_toArray, List.set_cons_zero, List.set_cons_succ]
          refine held_yes 6 (some 85) rfl rfl (by kernel_rfl) (by kernel_rfl) (by kernel_rfl) (fun _ _ _ h => h) (by kernel_rfl) hHeld (v := ?_) (fun wz hSw => ?_) ?_
          rotate_left 1
          · (try dsimp only at hSw); go_simp; (try with_reducible rfl)
          try simp only [Act.put, List.setIfInBounds_toArray, List.set_cons_zero, List.set_cons_succ]
          refine held_yes 7 (some 86) rfl rfl (by kernel_rfl) (by kernel_rfl) (by kernel_rfl) (fun _ _ _ h => h) (by kernel_rfl) hHeld (v := ?_) (fun wz hSw => ?_) ?_
          rotate_left 1
          · (try dsimp only at hSw); go_simp; (try with_reducible rfl)
          try simp only [Act.put, List.setIfInBounds_toArray, List.set_cons_zero, List.set_cons_succ]
          have y0 := (ry3).c0; have y1 := (ry3).c1; have y2 := (ry3).c2; have y3 := (ry3).c3; have y4 := (ry3).f 0; have y5 := (ry3).f 1; have y6 := (ry3).f 2; have y7 := (ry3).f 3
          refine wpAnyH_ready (rs := [9]) (by kernel_rfl) (by simp) ?_
          refine AllReadyH.cons rfl (fun K hK => ?_) AllReadyH.nil
          go_simp
          have F := finB (fz := fz) (off := fo) (lo := (u2C.alloc (.cells #[.slice none 0 0, .slice none 0 0, .int .i64 0, .bool false] 30)).heap.size) (kb3) (ry3) oa ob hap ((kb2.alloc kb2.size (.cells #[.slice none 0 0, .slice none 0 0, .int .i64 0, .bool false] 30)).size) (kb2.size) (by simp)
          refine hK.out _ _ (HSC.out _ F.2.2.2.2.1) (fun hHeld => ?_)
          clear hK K y0 y1 y2 y3 y4 y5 y6 y7
          try simp only [Act.put, List.setIfInBounds_toArray, List.set_cons_zero, List.set_cons_succ]
          refine held_yes 10 (some 15) rfl rfl (by kernel_rfl) (by kernel_rfl) (by kernel_rfl) (fun _ _ _ h => h) (by kernel_rfl) hHeld (v := ?_) (fun wz hSw => ?_) ?_
          rotate_left 1
          · (try dsimp only at hSw); go_simp; (try with_reducible rfl)
          try simp only [Act.put, List.setIfInBounds_toArray, List.set_cons_zero, List.set_cons_succ]
          refine wpAnyH_done (by kernel_rfl) ?_ _
          revert F
          generalize u2C.heap.size = b6
          intro F
          exact ⟨T0, T1, Z0, Z1, d0, d1, b6, _, _, rfl, F⟩
      · skip
        go_simp
        have kbA := (kb1).alloc (kb1).size (.cells #[.slice none 0 0, .slice none 0 0, .int .i64 0, .bool false] 30)
        have ryA : Four (u1C.alloc (.cells #[.slice none 0 0, .slice none 0 0, .int .i64 0, .bool false] 30)) u1C.heap.size 30 (.slice none 0 0) (.slice none 0 0) (.int .i64 0) (.bool false) := Four.new _ _ _ _ _ _
        refine hK.out _ _ (HSC.out _ kbA) (fun hHeld => ?_)
        clear hK K
        try simp only [Act.put, List.setIfInBounds_toArray, List.set_cons_zero, List.set_cons_succ]
        refine wpAnyH_ready (rs := [3]) (by kernel_rfl) (by simp) ?_
        refine AllReadyH.cons rfl (fun K hK => ?_) AllReadyH.nil
        go_simp
        go_at_call 44
        go_fit (toSuper_any p0 p1 p2 p3 _)
        rintro e u2C ⟨rfl, g⟩
        skip
        have kb2 : Below w11.heap.size w11 u2C := (kbA).trans (g.mono (kbA).size)
        have ry2 := (ryA).keep g
        have g2 := g; clear g
        refine hK.out _ _ (HSC.out _ kb2) (fun hHeld => ?_)
        clear hK K
        try simp only [Act.put, List.setIfInBounds_toArray, List.set_cons_zero, List.set_cons_succ]
        refine wpAnyH_ready (rs := [4]) (by kernel_rfl) (by simp) ?_
        refine AllReadyH.cons rfl (fun K hK => ?_) AllReadyH.nil
        go_simp
        have kT : Below u1C.heap.size u1C (u2C) := ((Below.refl _ _).alloc (Nat.le_refl _) _).trans (g2.mono (by simp))
        go_at_call 54
        go_fit (P0.out _ _ _ (OT.rit (own_bel RT0.out kT) IDa.out) (OU.riu (own_bel RT1.out kT) IMa.out))
        rintro e u3C ⟨Z0, Z1, d0, d1, rfl, oa, ob, hap, g⟩
        skip
        have kb3 : Below w11.heap.size w11 u3C := (kb2).trans (g.mono (kb2).size)
        have ry3 := (ry2).keep g
        have g3 := g; clear g
        refine hK.out _ _ (HSC.out _ kb3) (fun hHeld => ?_)
        clear hK K
        try simp only [Act.put, List.setIfInBounds_toArray, List.set_cons_zero, List.set_cons_succ]
        refine held_yes 5 (some 79) rfl rfl (by kernel_rfl) (by kernel_rfl) (by kernel_rfl) (fun _ _ _ h => h) (by kernel_rfl) hHeld (v := ?_) (fun wz hSw => ?_) ?_
        rotate_left 1
        · (try dsimp only at hSw); go_simp; (try with_reducible rfl)
        try simp only [Act.put, List.setIfInBounds_toArray, List.set_cons_zero, List.set_cons_succ]
        refine held_yes 6 (some 85) rfl rfl (by kernel_rfl) (by kernel_rfl) (by kernel_rfl) (fun _ _ _ h => h) (by kernel_rfl) hHeld (v := ?_) (fun wz hSw => ?_) ?_
        rotate_left 1
        · (try dsimp only at hSw); go_simp; (try with_reducible rfl)
        try simp only [Act.put, List.setIfInBounds_toArray, List.set_cons_zero, List.set_cons_succ]
        refine held_yes 7 (some 86) rfl rfl (by kernel_rfl) (by kernel_rfl) (by kernel_rfl) (fun _ _ _ h => h) (by kernel_rfl) hHeld (v := ?_) (fun wz hSw => ?_) ?_
        rotate_left 1
        · (try dsimp only at hSw); go_simp; (try with_reducible rfl)
        try simp only [Act.put, List.setIfInBounds_toArray, List.set_cons_zero, List.set_cons_succ]
        have y0 := (ry3).c0; have y1 := (ry3).c1; have y2 := (ry3).c2; have y3 := (ry3).c3; have y4 := (ry3).f 0; have y5 := (ry3).f 1; have y6 := (ry3).f 2; have y7 := (ry3).f 3
        refine wpAnyH_ready (rs := [9]) (by kernel_rfl) (by simp) ?_
        refine AllReadyH.cons rfl (fun K hK => ?_) AllReadyH.nil
        go_simp
        have F := finB (fz := fz) (off := fo) (lo := u2C.heap.size) (kb3) (ry3) oa ob hap (kb2.size) (kb1.size) (by have := ry2.lt; omega)
        refine hK.out _ _ (HSC.out _ F.2.2.2.2.1) (fun hHeld => ?_)
        clear hK K y0 y1 y2 y3 y4 y5 y6 y7
        try simp only [Act.put, List.setIfInBounds_toArray, List.set_cons_zero, List.set_cons_succ]
        refine held_yes 10 (some 15) rfl rfl (by kernel_rfl) (by kernel_rfl) (by kernel_rfl) (fun _ _ _ h => h) (by kernel_rfl) hHeld (v := ?_) (fun wz hSw => ?_) ?_
        rotate_left 1
        · (try dsimp only at hSw); go_simp; (try with_reducible rfl)
        try simp only [Act.put, List.setIfInBounds_toArray, List.set_cons_zero, List.set_cons_succ]
        refine wpAnyH_done (by kernel_rfl) ?_ _
        revert F
        generalize u1C.heap.size = b6
        intro F
        exact ⟨T0, T1, Z0, Z1, d0, d1, b6, _, _, rfl, F⟩
    · skip
      go_simp
      have kbA := (HDrC.out).alloc (HDrC.out).size (.cells #[.slice none 0 0, .slice none 0 0, .int .i64 0, .bool false] 30)
      have ryA : Four (w11.drew.alloc (.cells #[.slice none 0 0, .slice none 0 0, .int .i64 0, .bool false] 30)) w11.heap.size 30 (.slice none 0 0) (.slice none 0 0) (.int .i64 0) (.bool false) := Four.new _ _ _ _ _ _
      refine hK.out _ _ (HSC.out _ kbA) (fun hHeld => ?_)
      clear hK K
      try simp only [Act.put, List.setIfInBounds_toArray, List.set_cons_zero, List.set_cons_succ]
      refine wpAnyH_ready (rs := [1]) (by kernel_rfl) (by simp) ?_
      refine AllReadyH.cons rfl (fun K hK => ?_) AllReadyH.nil
      go_simp
      go_at_call 21
      go_fit (toDisk_any (Ha.out.at (Nat.le_refl _) (HB11.out.trans ((kbA).mono HB11.out.size))) (Hb.out.at (Nat.le_refl _) (HB11.out.trans ((kbA).mono HB11.out.size))) (Nat.le_refl _) SM.out.1 SM.out.2)
      rintro e u1C ⟨T0, T1, rfl, ra, rb, -, g⟩
      have RT0 := Lib.hid ra; have RT1 := Lib.hid rb; clear ra rb
      have kb1 : Below w11.heap.size w11 u1C := (kbA).trans (g.mono (kbA).size)
      have ry1 := (ryA).keep g
      have g1 := g; clear g
      refine hK.out _ _ (HSC.out _ kb1) (fun hHeld => ?_)
      clear hK K
      try simp only [Act.put, List.setIfInBounds_toArray, List.set_cons_zero, List.set_cons_succ]
      refine wpAnyH_ready (rs := [3]) (by kernel_rfl) (by simp) ?_
      refine AllReadyH.cons rfl (fun K hK => ?_) AllReadyH.nil
      go_simp
      go_at_call 44
      go_fit (toSuper_any p0 p1 p2 p3 _)
      rintro e u2C ⟨rfl, g⟩
      skip
      have kb2 : Below w11.heap.size w11 u2C := (kb1).trans (g.mono (kb1).size)
      have ry2 := (ry1).keep g
      have g2 := g; clear g
      refine hK.out _ _ (HSC.out _ kb2) (fun hHeld => ?_)
      clear hK K
      try simp only [Act.put, List.setIfInBounds_toArray, List.set_cons_zero, List.set_cons_succ]
      refine wpAnyH_ready (rs := [4]) (by kernel_rfl) (by simp) ?_
      refine AllReadyH.cons rfl (fun K hK => ?_) AllReadyH.nil
      go_simp
      have kT : Below u1C.heap.size u1C (u2C) := g2
      go_at_call 54
      go_fit (P0.out _ _ _ (OT.rit (own_bel RT0.out kT) IDa.out) (OU.riu (own_bel RT1.out kT) IMa.out))
      rintro e u3C ⟨Z0, Z1, d0, d1, rfl, oa, ob, hap, g⟩
      skip
      have kb3 : Below w11.heap.size w11 u3C := (kb2).trans (g.mono (kb2).size)
      have ry3 := (ry2).keep g
      have g3 := g; clear g
      refine hK.out _ _ (HSC.out _ kb3) (fun hHeld => ?_)
      clear hK K
      try simp only [Act.put, List.setIfInBounds_toArray, List.set_cons_zero, List.set_cons_succ]
      refine held_yes 5 (some 79) rfl rfl (by kernel_rfl) (by kernel_rfl) (by kernel_rfl) (fun _ _ _ h => h) (by kernel_rfl) hHeld (v := ?_) (fun wz hSw => ?_) ?_
      rotate_left 1
      · (try dsimp only at hSw); go_simp; (try with_reducible rfl)
      try simp only [Act.put, List.setIfInBounds_toArray, List.set_cons_zero, List.set_cons_succ]
      refine held_yes 6 (some 85) rfl rfl (by kernel_rfl) (by kernel_rfl) (by kernel_rfl) (fun _ _ _ h => h) (by kernel_rfl) hHeld (v := ?_) (fun wz hSw => ?_) ?_
      rotate_left 1
      · (try dsimp only at hSw); go_simp; (try with_reducible rfl)
      try simp only [Act.put, List.setIfInBounds_toArray, List.set_cons_zero, List.set_cons_succ]
      refine held_yes 7 (some 86) rfl rfl (by kernel_rfl) (by kernel_rfl) (by kernel_rfl) (fun _ _ _ h => h) (by kernel_rfl) hHeld (v := ?_) (fun wz hSw => ?_) ?_
      rotate_left 1
      · (try dsimp only at hSw); go_simp; (try with_reducible rfl)
      try simp only [Act.put, List.setIfInBounds_toArray, List.set_cons_zero, List.set_cons_succ]
      have y0 := (ry3).c0; have y1 := (ry3).c1; have y2 := (ry3).c2; have y3 := (ry3).c3; have y4 := (ry3).f 0; have y5 := (ry3).f 1; have y6 := (ry3).f 2; have y7 := (ry3).f 3
      refine wpAnyH_ready (rs := [9]) (by kernel_rfl) (by simp) ?_
      refine AllReadyH.cons rfl (fun K hK => ?_) AllReadyH.nil
      go_simp
      have F := finB (fz := fz) (off := fo) (lo := u2C.heap.size) (kb3) (ry3) oa ob hap (kb2.size) (Nat.le_refl _) (by have := ry2.lt; omega)
      refine hK.out _ _ (HSC.out _ F.2.2.2.2.1) (fun hHeld => ?_)
      clear hK K y0 y1 y2 y3 y4 y5 y6 y7
      try simp only [Act.put, List.setIfInBounds_toArray, List.set_cons_zero, List.set_cons_succ]
      refine held_yes 10 (some 15) rfl rfl (by kernel_rfl) (by kernel_rfl) (by kernel_rfl) (fun _ _ _ h => h) (by kernel_rfl) hHeld (v := ?_) (fun wz hSw => ?_) ?_
      rotate_left 1
      · (try dsimp only at hSw); go_simp; (try with_reducible rfl)
      try simp only [Act.put, List.setIfInBounds_toArray, List.set_cons_zero, List.set_cons_succ]
      refine wpAnyH_done (by kernel_rfl) ?_ _
      revert F
      generalize w11.heap.size = b6
      intro F
      exact ⟨T0, T1, Z0, Z1, d0, d1, b6, _, _, rfl, F⟩
  rintro a' w12 ⟨T0C, T1C, CA0, CA1, Cc0, Cc1, bC, loC, hiC, rfl, F⟩
  have SZ12 : Hid (w11.heap.size ≤ w12.heap.size ∧ (w11.heap.size ≤ bC ∧ bC < w12.heap.size ∧ w11.heap.size ≤ loC ∧ hiC ≤ w12.heap.size ∧ (bC < loC ∨ hiC ≤ bC))) := Lib.hid ⟨F.2.2.2.2.1.size, F.2.2.2.2.2.1⟩
  have G12 := Lib.hid F.2.2.2.2.1
  have F0_12 : Hid (w12.cell? ⟨w.heap.size, 0, none⟩ = some (.slice A0 xs0_0.length c0)) := Lib.hid (oldcell G12.out F0_11.out)
  have F1_12 : Hid (w12.cell? ⟨w.heap.size, 1, none⟩ = some (.slice A1 xs0_1.length c1)) := Lib.hid (oldcell G12.out F1_11.out)
  have F2_12 : Hid (w12.cell? ⟨w.heap.size, 2, none⟩ = some (.int .i64 n0_2)) := Lib.hid (oldcell G12.out F2_11.out)
  have F3_12 : Hid (w12.cell? ⟨w.heap.size, 3, none⟩ = some (.bool n0_3)) := Lib.hid (oldcell G12.out F3_11.out)
  have P0_12 : Hid (w12.cell? ⟨w.heap.size + 1, 0, none⟩ = some (.int .i64 p0)) := Lib.hid (oldcell G12.out P0_11.out)
  have P1_12 : Hid (w12.cell? ⟨w.heap.size + 1, 1, none⟩ = some (.int .i64 p1)) := Lib.hid (oldcell G12.out P1_11.out)
  have P2_12 : Hid (w12.cell? ⟨w.heap.size + 1, 2, none⟩ = some (.int .i64 p2)) := Lib.hid (oldcell G12.out P2_11.out)
  have P3_12 : Hid (w12.cell? ⟨w.heap.size + 1, 3, none⟩ = some (.int .i64 p3)) := Lib.hid (oldcell G12.out P3_11.out)
  have OZ0_12 : Hid (OT w12 loZ (.slice ZA0 D.length Zc0) D) := Lib.hid (own_bel OZ0_11.out G12.out)
  have OZ1_12 : Hid (OU w12 loZ (.slice ZA1 M.length Zc1) M) := Lib.hid (own_bel OZ1_11.out G12.out)
  have Q0_12 : Hid (w12.cell? ⟨bZ, 0, none⟩ = some (.slice ZA0 D.length Zc0)) := Lib.hid (oldcell G12.out Q0_11.out)
  have Q1_12 : Hid (w12.cell? ⟨bZ, 1, none⟩ = some (.slice ZA1 M.length Zc1)) := Lib.hid (oldcell G12.out Q1_11.out)
  have Q2_12 : Hid (w12.cell? ⟨bZ, 2, none⟩ = some (.int .i64 fz)) := Lib.hid (oldcell G12.out Q2_11.out)
  have Q3_12 : Hid (w12.cell? ⟨bZ, 3, none⟩ = some (.bool fo)) := Lib.hid (oldcell G12.out Q3_11.out)
  have K0_12 : Hid (w12.cell? ⟨w3.heap.size, 0, none⟩ = some (.slice VA0 xs0_0.length xs0_0.length)) := Lib.hid (oldcell G12.out K0_11.out)
  have K1_12 : Hid (w12.cell? ⟨w3.heap.size, 1, none⟩ = some (.slice VA1 xs0_1.length xs0_1.length)) := Lib.hid (oldcell G12.out K1_11.out)
  have K2_12 : Hid (w12.cell? ⟨w3.heap.size, 2, none⟩ = some (.int .i64 n0_2)) := Lib.hid (oldcell G12.out K2_11.out)
  have K3_12 : Hid (w12.cell? ⟨w3.heap.size, 3, none⟩ = some (.bool n0_3)) := Lib.hid (oldcell G12.out K3_11.out)
  have S0_12 : Hid (w12.cell? ⟨bY, 0, none⟩ = some (.slice YA0 D.length Yc0)) := Lib.hid (oldcell G12.out S0_11.out)
  have S1_12 : Hid (w12.cell? ⟨bY, 1, none⟩ = some (.slice YA1 M.length Yc1)) := Lib.hid (oldcell G12.out S1_11.out)
  have S2_12 : Hid (w12.cell? ⟨bY, 2, none⟩ = some (.int .i64 fz)) := Lib.hid (oldcell G12.out S2_11.out)
  have S3_12 : Hid (w12.cell? ⟨bY, 3, none⟩ = some (.bool fo)) := Lib.hid (oldcell G12.out S3_11.out)
  have OY0_12 : Hid (OT w12 loY (.slice YA0 D.length Yc0) (marksT 1 D.length)) := Lib.hid (own_bel OY0_11.out G12.out)
  have OY1_12 : Hid (OU w12 loY (.slice YA1 M.length Yc1) (marksU (1 + D.length) M.length)) := Lib.hid (own_bel OY1_11.out G12.out)
  have HB12 : Hid (Below w.heap.size w w12) := Lib.hid (HB11.out.trans (G12.out.mono HB11.out.size))
  have OC0_12 : Hid (OT w12 loC (.slice CA0 D.length Cc0) D) := Lib.hid F.2.1
  have IC0 : Hid (Wi loC hiC (.slice CA0 D.length Cc0)) := Lib.hid F.2.2.2.2.2.2.1
  have OC1_12 : Hid (OU w12 loC (.slice CA1 M.length Cc1) M) := Lib.hid F.2.2.1
  have IC1 : Hid (Wi loC hiC (.slice CA1 M.length Cc1)) := Lib.hid F.2.2.2.2.2.2.2
  have XC := Lib.hid F.2.2.2.1
  have J0_12 : Hid (w12.cell? ⟨bC, 0, none⟩ = some (.slice CA0 D.length Cc0)) := Lib.hid F.1.c0
  have J1_12 : Hid (w12.cell? ⟨bC, 1, none⟩ = some (.slice CA1 M.length Cc1)) := Lib.hid F.1.c1
  have J2_12 : Hid (w12.cell? ⟨bC, 2, none⟩ = some (.int .i64 fz)) := Lib.hid F.1.c2
  have J3_12 : Hid (w12.cell? ⟨bC, 3, none⟩ = some (.bool fo)) := Lib.hid F.1.c3
  clear F
  try simp only [Exit.then]
  have qF0 := F0_12.out
  have qF1 := F1_12.out
  have qF2 := F2_12.out
  have qF3 := F3_12.out
  have qP0 := P0_12.out
  have qP1 := P1_12.out
  have qP2 := P2_12.out
  have qP3 := P3_12.out
  have qQ0 := Q0_12.out
  have qQ1 := Q1_12.out
  have qQ2 := Q2_12.out
  have qQ3 := Q3_12.out
  have qK0 := K0_12.out
  have qK1 := K1_12.out
  have qK2 := K2_12.out
  have qK3 := K3_12.out
  have qS0 := S0_12.out
  have qS1 := S1_12.out
  have qS2 := S2_12.out
  have qS3 := S3_12.out
  have qJ0 := J0_12.out
  have qJ1 := J1_12.out
  have qJ2 := J2_12.out
  have qJ3 := J3_12.out
  go_wp2_with fail
  clear qF0 qF1 qF2 qF3 qP0 qP1 qP2 qP3 qQ0 qQ1 qQ2 qQ3 qK0 qK1 qK2 qK3 qS0 qS1 qS2 qS3 qJ0 qJ1 qJ2 qJ3
  refine (eqDisk_any (OC0_12.out.rit ID.out) (OC1_12.out.riu IM.out) (OZ0_12.out.rit ID.out) (OZ1_12.out.riu IM.out) (Nat.le_refl _)).mono ?_
  rintro e w13 ⟨rfl, g⟩
  have G13 := Lib.hid g; have SZ13 : Hid (w12.heap.size ≤ w13.heap.size) := Lib.hid g.size; clear g
  have F0_13 : Hid (w13.cell? ⟨w.heap.size, 0, none⟩ = some (.slice A0 xs0_0.length c0)) := Lib.hid (oldcell G13.out F0_12.out)
  have F1_13 : Hid (w13.cell? ⟨w.heap.size, 1, none⟩ = some (.slice A1 xs0_1.length c1)) := Lib.hid (oldcell G13.out F1_12.out)
  have F2_13 : Hid (w13.cell? ⟨w.heap.size, 2, none⟩ = some (.int .i64 n0_2)) := Lib.hid (oldcell G13.out F2_12.out)
  have F3_13 : Hid (w13.cell? ⟨w.heap.size, 3, none⟩ = some (.bool n0_3)) := Lib.hid (oldcell G13.out F3_12.out)
  have P0_13 : Hid (w13.cell? ⟨w.heap.size + 1, 0, none⟩ = some (.int .i64 p0)) := Lib.hid (oldcell G13.out P0_12.out)
  have P1_13 : Hid (w13.cell? ⟨w.heap.size + 1, 1, none⟩ = some (.int .i64 p1)) := Lib.hid (oldcell G13.out P1_12.out)
  have P2_13 : Hid (w13.cell? ⟨w.heap.size + 1, 2, none⟩ = some (.int .i64 p2)) := Lib.hid (oldcell G13.out P2_12.out)
  have P3_13 : Hid (w13.cell? ⟨w.heap.size + 1, 3, none⟩ = some (.int .i64 p3)) := Lib.hid (oldcell G13.out P3_12.out)
  have OZ0_13 : Hid (OT w13 loZ (.slice ZA0 D.length Zc0) D) := Lib.hid (own_bel OZ0_12.out G13.out)
  have OZ1_13 : Hid (OU w13 loZ (.slice ZA1 M.length Zc1) M) := Lib.hid (own_bel OZ1_12.out G13.out)
  have Q0_13 : Hid (w13.cell? ⟨bZ, 0, none⟩ = some (.slice ZA0 D.length Zc0)) := Lib.hid (oldcell G13.out Q0_12.out)
  have Q1_13 : Hid (w13.cell? ⟨bZ, 1, none⟩ = some (.slice ZA1 M.length Zc1)) := Lib.hid (oldcell G13.out Q1_12.out)
  have Q2_13 : Hid (w13.cell? ⟨bZ, 2, none⟩ = some (.int .i64 fz)) := Lib.hid (oldcell G13.out Q2_12.out)
  have Q3_13 : Hid (w13.cell? ⟨bZ, 3, none⟩ = some (.bool fo)) := Lib.hid (oldcell G13.out Q3_12.out)
  have K0_13 : Hid (w13.cell? ⟨w3.heap.size, 0, none⟩ = some (.slice VA0 xs0_0.length xs0_0.length)) := Lib.hid (oldcell G13.out K0_12.out)
  have K1_13 : Hid (w13.cell? ⟨w3.heap.size, 1, none⟩ = some (.slice VA1 xs0_1.length xs0_1.length)) := Lib.hid (oldcell G13.out K1_12.out)
  have K2_13 : Hid (w13.cell? ⟨w3.heap.size, 2, none⟩ = some (.int .i64 n0_2)) := Lib.hid (oldcell G13.out K2_12.out)
  have K3_13 : Hid (w13.cell? ⟨w3.heap.size, 3, none⟩ = some (.bool n0_3)) := Lib.hid (oldcell G13.out K3_12.out)
  have S0_13 : Hid (w13.cell? ⟨bY, 0, none⟩ = some (.slice YA0 D.length Yc0)) := Lib.hid (oldcell G13.out S0_12.out)
  have S1_13 : Hid (w13.cell? ⟨bY, 1, none⟩ = some (.slice YA1 M.length Yc1)) := Lib.hid (oldcell G13.out S1_12.out)
  have S2_13 : Hid (w13.cell? ⟨bY, 2, none⟩ = some (.int .i64 fz)) := Lib.hid (oldcell G13.out S2_12.out)
  have S3_13 : Hid (w13.cell? ⟨bY, 3, none⟩ = some (.bool fo)) := Lib.hid (oldcell G13.out S3_12.out)
  have OY0_13 : Hid (OT w13 loY (.slice YA0 D.length Yc0) (marksT 1 D.length)) := Lib.hid (own_bel OY0_12.out G13.out)
  have OY1_13 : Hid (OU w13 loY (.slice YA1 M.length Yc1) (marksU (1 + D.length) M.length)) := Lib.hid (own_bel OY1_12.out G13.out)
  have OC0_13 : Hid (OT w13 loC (.slice CA0 D.length Cc0) D) := Lib.hid (own_bel OC0_12.out G13.out)
  have OC1_13 : Hid (OU w13 loC (.slice CA1 M.length Cc1) M) := Lib.hid (own_bel OC1_12.out G13.out)
  have J0_13 : Hid (w13.cell? ⟨bC, 0, none⟩ = some (.slice CA0 D.length Cc0)) := Lib.hid (oldcell G13.out J0_12.out)
  have J1_13 : Hid (w13.cell? ⟨bC, 1, none⟩ = some (.slice CA1 M.length Cc1)) := Lib.hid (oldcell G13.out J1_12.out)
  have J2_13 : Hid (w13.cell? ⟨bC, 2, none⟩ = some (.int .i64 fz)) := Lib.hid (oldcell G13.out J2_12.out)
  have J3_13 : Hid (w13.cell? ⟨bC, 3, none⟩ = some (.bool fo)) := Lib.hid (oldcell G13.out J3_12.out)
  have HB13 : Hid (Below w.heap.size w w13) := Lib.hid (HB12.out.trans (G13.out.mono HB12.out.size))
  have qF0 := F0_13.out
  have qF1 := F1_13.out
  have qF2 := F2_13.out
  have qF3 := F3_13.out
  have qP0 := P0_13.out
  have qP1 := P1_13.out
  have qP2 := P2_13.out
  have qP3 := P3_13.out
  have qQ0 := Q0_13.out
  have qQ1 := Q1_13.out
  have qQ2 := Q2_13.out
  have qQ3 := Q3_13.out
  have qK0 := K0_13.out
  have qK1 := K1_13.out
  have qK2 := K2_13.out
  have qK3 := K3_13.out
  have qS0 := S0_13.out
  have qS1 := S1_13.out
  have qS2 := S2_13.out
  have qS3 := S3_13.out
  have qJ0 := J0_13.out
  have qJ1 := J1_13.out
  have qJ2 := J2_13.out
  have qJ3 := J3_13.out
  go_wp2_with fail
  clear qF0 qF1 qF2 qF3 qP0 qP1 qP2 qP3 qQ0 qQ1 qQ2 qQ3 qK0 qK1 qK2 qK3 qS0 qS1 qS2 qS3 qJ0 qJ1 qJ2 qJ3
  refine (heldDisk_any 1 OY0_13.out OY1_13.out (by omega) (by have h1 := LD.out; have h2 := LM.out; omega)).mono ?_
  rintro e w14 ⟨rfl, g⟩
  have G14 := Lib.hid g; have SZ14 : Hid (w13.heap.size ≤ w14.heap.size) := Lib.hid g.size; clear g
  have F0_14 : Hid (w14.cell? ⟨w.heap.size, 0, none⟩ = some (.slice A0 xs0_0.length c0)) := Lib.hid (oldcell G14.out F0_13.out)
  have F1_14 : Hid (w14.cell? ⟨w.heap.size, 1, none⟩ = some (.slice A1 xs0_1.length c1)) := Lib.hid (oldcell G14.out F1_13.out)
  have F2_14 : Hid (w14.cell? ⟨w.heap.size, 2, none⟩ = some (.int .i64 n0_2)) := Lib.hid (oldcell G14.out F2_13.out)
  have F3_14 : Hid (w14.cell? ⟨w.heap.size, 3, none⟩ = some (.bool n0_3)) := Lib.hid (oldcell G14.out F3_13.out)
  have P0_14 : Hid (w14.cell? ⟨w.heap.size + 1, 0, none⟩ = some (.int .i64 p0)) := Lib.hid (oldcell G14.out P0_13.out)
  have P1_14 : Hid (w14.cell? ⟨w.heap.size + 1, 1, none⟩ = some (.int .i64 p1)) := Lib.hid (oldcell G14.out P1_13.out)
  have P2_14 : Hid (w14.cell? ⟨w.heap.size + 1, 2, none⟩ = some (.int .i64 p2)) := Lib.hid (oldcell G14.out P2_13.out)
  have P3_14 : Hid (w14.cell? ⟨w.heap.size + 1, 3, none⟩ = some (.int .i64 p3)) := Lib.hid (oldcell G14.out P3_13.out)
  have OZ0_14 : Hid (OT w14 loZ (.slice ZA0 D.length Zc0) D) := Lib.hid (own_bel OZ0_13.out G14.out)
  have OZ1_14 : Hid (OU w14 loZ (.slice ZA1 M.length Zc1) M) := Lib.hid (own_bel OZ1_13.out G14.out)
  have Q0_14 : Hid (w14.cell? ⟨bZ, 0, none⟩ = some (.slice ZA0 D.length Zc0)) := Lib.hid (oldcell G14.out Q0_13.out)
  have Q1_14 : Hid (w14.cell? ⟨bZ, 1, none⟩ = some (.slice ZA1 M.length Zc1)) := Lib.hid (oldcell G14.out Q1_13.out)
  have Q2_14 : Hid (w14.cell? ⟨bZ, 2, none⟩ = some (.int .i64 fz)) := Lib.hid (oldcell G14.out Q2_13.out)
  have Q3_14 : Hid (w14.cell? ⟨bZ, 3, none⟩ = some (.bool fo)) := Lib.hid (oldcell G14.out Q3_13.out)
  have K0_14 : Hid (w14.cell? ⟨w3.heap.size, 0, none⟩ = some (.slice VA0 xs0_0.length xs0_0.length)) := Lib.hid (oldcell G14.out K0_13.out)
  have K1_14 : Hid (w14.cell? ⟨w3.heap.size, 1, none⟩ = some (.slice VA1 xs0_1.length xs0_1.length)) := Lib.hid (oldcell G14.out K1_13.out)
  have K2_14 : Hid (w14.cell? ⟨w3.heap.size, 2, none⟩ = some (.int .i64 n0_2)) := Lib.hid (oldcell G14.out K2_13.out)
  have K3_14 : Hid (w14.cell? ⟨w3.heap.size, 3, none⟩ = some (.bool n0_3)) := Lib.hid (oldcell G14.out K3_13.out)
  have S0_14 : Hid (w14.cell? ⟨bY, 0, none⟩ = some (.slice YA0 D.length Yc0)) := Lib.hid (oldcell G14.out S0_13.out)
  have S1_14 : Hid (w14.cell? ⟨bY, 1, none⟩ = some (.slice YA1 M.length Yc1)) := Lib.hid (oldcell G14.out S1_13.out)
  have S2_14 : Hid (w14.cell? ⟨bY, 2, none⟩ = some (.int .i64 fz)) := Lib.hid (oldcell G14.out S2_13.out)
  have S3_14 : Hid (w14.cell? ⟨bY, 3, none⟩ = some (.bool fo)) := Lib.hid (oldcell G14.out S3_13.out)
  have OY0_14 : Hid (OT w14 loY (.slice YA0 D.length Yc0) (marksT 1 D.length)) := Lib.hid (own_bel OY0_13.out G14.out)
  have OY1_14 : Hid (OU w14 loY (.slice YA1 M.length Yc1) (marksU (1 + D.length) M.length)) := Lib.hid (own_bel OY1_13.out G14.out)
  have OC0_14 : Hid (OT w14 loC (.slice CA0 D.length Cc0) D) := Lib.hid (own_bel OC0_13.out G14.out)
  have OC1_14 : Hid (OU w14 loC (.slice CA1 M.length Cc1) M) := Lib.hid (own_bel OC1_13.out G14.out)
  have J0_14 : Hid (w14.cell? ⟨bC, 0, none⟩ = some (.slice CA0 D.length Cc0)) := Lib.hid (oldcell G14.out J0_13.out)
  have J1_14 : Hid (w14.cell? ⟨bC, 1, none⟩ = some (.slice CA1 M.length Cc1)) := Lib.hid (oldcell G14.out J1_13.out)
  have J2_14 : Hid (w14.cell? ⟨bC, 2, none⟩ = some (.int .i64 fz)) := Lib.hid (oldcell G14.out J2_13.out)
  have J3_14 : Hid (w14.cell? ⟨bC, 3, none⟩ = some (.bool fo)) := Lib.hid (oldcell G14.out J3_13.out)
  have HB14 : Hid (Below w.heap.size w w14) := Lib.hid (HB13.out.trans (G14.out.mono HB13.out.size))
  have qF0 := F0_14.out
  have qF1 := F1_14.out
  have qF2 := F2_14.out
  have qF3 := F3_14.out
  have qP0 := P0_14.out
  have qP1 := P1_14.out
  have qP2 := P2_14.out
  have qP3 := P3_14.out
  have qQ0 := Q0_14.out
  have qQ1 := Q1_14.out
  have qQ2 := Q2_14.out
  have qQ3 := Q3_14.out
  have qK0 := K0_14.out
  have qK1 := K1_14.out
  have qK2 := K2_14.out
  have qK3 := K3_14.out
  have qS0 := S0_14.out
  have qS1 := S1_14.out
  have qS2 := S2_14.out
  have qS3 := S3_14.out
  have qJ0 := J0_14.out
  have qJ1 := J1_14.out
  have qJ2 := J2_14.out
  have qJ3 := J3_14.out
  go_wp2_with fail
  clear qF0 qF1 qF2 qF3 qP0 qP1 qP2 qP3 qQ0 qQ1 qQ2 qQ3 qK0 qK1 qK2 qK3 qS0 qS1 qS2 qS3 qJ0 qJ1 qJ2 qJ3
  go_ret
  exact ⟨rfl, HB14.out⟩
theorem own : ownKnob Try.prog.godebug = none := by kernel_rfl
theorem laidOut : laidOutB Try.prog = true := by kernel_rfl
set_option maxRecDepth 100000 in
theorem lifted (os : Os) (started : os.Started) (H : Type) (enc : TypeId × Value → H) :
    ReturnsInHanded {} Try.checked os 15 .any (Rows.fnExactWriteSuperSpec.pre6 enc Try.prog Try.f15 Rows.fnExactWriteSuperRow.domain false) (Rows.fnExactWriteSuperSpec.post enc Try.prog Try.f15 false true false false) := by
  refine returnsInHanded_of_change (C := Try.checked) own started (by kernel_rfl) Try.func15
    (ChangeSpec.witness6 (enc := enc) (C := Try.checked) false ⟨#[], #[.agg #[.slice none 0 0, .slice none 0 0, .int .i64 0, .bool false], .agg #[.int .i64 0, .int .i64 0, .int .i64 0, .int .i64 0]], []⟩ 8 (by kernel_rfl) (by kernel_rfl) (by kernel_rfl) (by kernel_rfl)) ?_
  intro W base args ds gs before hval0 hW hcnd _
  have hval : ∀ (j : Nat) t v, Try.f15.params[j]? = some t → args[j]? = some v → Value.okWide Try.prog W .any base t v := hval0
  have hW' := hW
  obtain ⟨p, q, hA0, hV, rfl, hfz, hnd⟩ := hW
  have hA : DataW.TrodAll enc Try.prog W 0 (fun _ => true) true Try.f15.params.toList args.toList ds p := hA0
  rw [Try.params15] at hA hval
  obtain ⟨v0, vs0, d0, ds0, p0, q0, hargs, rfl, rfl, h0, r0⟩ := trodAll_cons hA
  obtain ⟨v1, vs1, d1, ds1, p1, q1, rfl, rfl, rfl, h1, r1⟩ := trodAll_cons r0
  obtain ⟨rfl, rfl, rfl⟩ := trodAll_nil r1
  obtain rfl : args = #[v0, v1] := by cases args; simp_all
  obtain ⟨rfl, rfl⟩ := trodVars_none hV
  have k0 := h0
  have lt0 : ∀ x ∈ p0, x.block < W.heap.size := by obtain ⟨m, hm⟩ := k0; exact DataW.trod_lt m _ _ _ hm
  obtain ⟨v0_0, xs0_0, v0_1, xs0_1, n0_2, n0_3, rfl, g0_0, g0_1, g0_2⟩ := open_disk (hval 0 25 v0 rfl rfl) h0
  have k1 := h1
  have lt1 : ∀ x ∈ p1, x.block < W.heap.size := by obtain ⟨m, hm⟩ := k1; exact DataW.trod_lt m _ _ _ hm
  obtain ⟨n0, n1, n2, n3, rfl, i0, i1, i2, i3⟩ := open_super (hval 1 53 v1 rfl rfl) h1
  clear hA0 hval0
  refine (walk W _ _ _ _ _ _ n0 n1 n2 n3 g0_0 g0_1 g0_2 i0 i1).mono fun e W' ⟨he, bel⟩ => ?_
  subst he
  exact ⟨_, rfl, _, _, _, [], _, [], hW', (trodAll_cons_mk (shut_bool Try.underlying4 _) trodAll_mk0), (trodAll_cons_mk (Below.trod laidOut (by kernel_rfl) (of_decide_eq_true (by kernel_rfl)) k0 bel lt0) (trodAll_cons_mk (Below.trod laidOut (by kernel_rfl) (of_decide_eq_true (by kernel_rfl)) k1 bel lt1) trodAll_mk0)), rfl, bel.frame _, fun h => by cases h⟩
theorem closed : joinedFacts Try.pinned.checked.prog 15 Try.f15 Rows.fnExactWriteSuperSpec Rows.fnExactWriteSuperRow = true := by
  unfold joinedFacts
  rw [mayE, lifF, mkP]
  kernel_rfl
theorem over : Rows.fnExactWriteSuperRow.holds Try.pinned (OpenSpec.ofChange Rows.fnExactWriteSuperSpec) :=
  OpenClaim.holds_of_wide 15 Try.f15 rfl rfl rfl rfl rfl rfl rfl ⟨rfl, rfl, rfl, rfl, rfl⟩ rfl rfl rfl rfl rfl (by kernel_rfl) Try.func15 closed
    (of_decide_eq_true (by kernel_rfl)) (by unfold Func.isWrapper; rw [if_neg (of_decide_eq_false (by kernel_rfl))]; exact ⟨rfl, rfl⟩)
    (fun os started H enc _ => lifted os started H enc)
theorem proved : Rows.FnExactWriteSuperSaid := over
end Go.Proofs.Ytpjkeikaonkohaa.fnExactWriteSuper
