/- The statement of the law FnExactSameHeap: whatever the input, the program's function answers as the model's, and the input reads as it did. Its conditions are the given statement's own; nothing is added. -/
import Derived.Test.YtabnglimchjgpaaJf
import Derived.Test.YtabnglimchjgpaaHpM
import Derived.Test.YtabnglimchjgpaaFrmV
import Derived.ProofKit
import Derived.OpenShut
import Derived.ShutString
import Derived.ChangeOld
import Derived.Below
import Derived.Deep.DeepFit
import Derived.Deep.WholeRow
import Derived.Deep.RegionHeld3
namespace Go.Proofs.Ytabnglimchjgpaa.fnExactSameHeap
open Go.ChangeShapes Go.WideShapes Go.ChangeAt Go.RowKit
open Go.ChangeMaps (open_string shut_string)
set_option linter.unusedVariables false
set_option maxHeartbeats 4000000 in
set_option maxRecDepth 100000 in
theorem walk (w : World) (v0_0 : Value) (xs0_0 : List ByteArray) (v1_0 : Value) (xs1_0 : List ByteArray) (h0_0 : RiT w.heap.size w v0_0 xs0_0) (h1_0 : RiT w.heap.size w v1_0 xs1_0) :
    Calls Try.prog 4 #[.agg #[v0_0], .agg #[v1_0]] w (GivesB (.bool true) w) := by
  have H0_0 := Lib.hid h0_0; obtain ⟨A0_0, c0_0, rfl, _⟩ := h0_0
  have H1_0 := Lib.hid h1_0; obtain ⟨A1_0, c1_0, rfl, _⟩ := h1_0
  have HB0 : Hid (Below w.heap.size w ((w.alloc (.cells #[.slice A0_0 xs0_0.length c0_0] 24)).alloc (.cells #[.slice A1_0 xs1_0.length c1_0] 24))) := Lib.hid (((Below.refl _ _).alloc (Nat.le_refl _) _).alloc (by simp) _)
  have Z0 : Hid (((w.alloc (.cells #[.slice A0_0 xs0_0.length c0_0] 24)).alloc (.cells #[.slice A1_0 xs1_0.length c1_0] 24)).heap.size = w.heap.size + 2) := Lib.hid (by simp)
  have Cc0_0_0 : Hid (((w.alloc (.cells #[.slice A0_0 xs0_0.length c0_0] 24)).alloc (.cells #[.slice A1_0 xs1_0.length c1_0] 24)).cell? ⟨w.heap.size, 0, none⟩ = some (.slice A0_0 xs0_0.length c0_0)) := Lib.hid (by
    rw [old_cell ((Below.refl _ (w.alloc (.cells #[.slice A0_0 xs0_0.length c0_0] 24))).alloc (Nat.le_refl _) _) _ _ (by simp)]; rw [cell_of_row _ _ _ _ _ _ (heap_alloc_new w _)]; rfl)
  have Cc1_0_0 : Hid (((w.alloc (.cells #[.slice A0_0 xs0_0.length c0_0] 24)).alloc (.cells #[.slice A1_0 xs1_0.length c1_0] 24)).cell? ⟨w.heap.size + 1, 0, none⟩ = some (.slice A1_0 xs1_0.length c1_0)) := Lib.hid (by
    have e : (w.alloc (.cells #[.slice A0_0 xs0_0.length c0_0] 24)).heap.size = w.heap.size + 1 := by simp
    rw [← e, cell_of_row _ _ _ _ _ _ (heap_alloc_new (w.alloc (.cells #[.slice A0_0 xs0_0.length c0_0] 24)) _)]; rfl)
  go_enter Try.func4, Try.ntmps4
  go_wp2_with fail
  generalize ((w.alloc (.cells #[.slice A0_0 xs0_0.length c0_0] 24)).alloc (.cells #[.slice A1_0 xs1_0.length c1_0] 24)) = w0 at *
  have LT0 : Hid (w.heap.size + 2 ≤ w0.heap.size) := Lib.hid (by have := Z0.out; omega)
  refine (szHp_any (H0_0.out.at (Nat.le_refl _) HB0.out) (Nat.le_refl _) (1048576) (by omega) (by omega)).mono ?_
  rintro e w1 ⟨l0, rfl, hl0, hL0, hp0, g⟩
  have P0 := Lib.hid hp0; have G1 := Lib.hid g; have SZ1 := Lib.hid g.size; clear hp0 g
  have HB1 : Hid (Below w.heap.size w w1) := Lib.hid (HB0.out.trans (G1.out.mono HB0.out.size))
  have Cc0_0_1 : Hid (w1.cell? ⟨w.heap.size, 0, none⟩ = some (.slice A0_0 xs0_0.length c0_0)) := Lib.hid ((G1.out.cell (p := ⟨w.heap.size, 0, none⟩) (show w.heap.size < _ from by have := LT0.out; omega)).trans Cc0_0_0.out)
  have Cc1_0_1 : Hid (w1.cell? ⟨w.heap.size + 1, 0, none⟩ = some (.slice A1_0 xs1_0.length c1_0)) := Lib.hid ((G1.out.cell (p := ⟨w.heap.size + 1, 0, none⟩) (show w.heap.size + 1 < _ from by have := LT0.out; omega)).trans Cc1_0_0.out)
  have LT1 : Hid (w.heap.size + 2 ≤ w1.heap.size) := Lib.hid (by have := LT0.out; have := SZ1.out; omega)
  by_cases neg0 : l0 < 0
  · skip
    have qCc0_0_ := Cc0_0_1.out
    have qCc1_0_ := Cc1_0_1.out
    go_wp2_with fail
    go_ret
    exact ⟨rfl, HB1.out⟩
  have SM0 := Lib.hid (P0.out (by omega))
  have qCc0_0_ := Cc0_0_1.out
  have qCc1_0_ := Cc1_0_1.out
  go_wp2_with fail
  clear qCc0_0_ qCc1_0_
  refine (szHp_any (H1_0.out.at (Nat.le_refl _) HB1.out) (Nat.le_refl _) (l0) (by omega) (by omega)).mono ?_
  rintro e w2 ⟨l1, rfl, hl1, hL1, hp1, g⟩
  have P1 := Lib.hid hp1; have G2 := Lib.hid g; have SZ2 := Lib.hid g.size; clear hp1 g
  have HB2 : Hid (Below w.heap.size w w2) := Lib.hid (HB1.out.trans (G2.out.mono HB1.out.size))
  have Cc0_0_2 : Hid (w2.cell? ⟨w.heap.size, 0, none⟩ = some (.slice A0_0 xs0_0.length c0_0)) := Lib.hid ((G2.out.cell (p := ⟨w.heap.size, 0, none⟩) (show w.heap.size < _ from by have := LT1.out; omega)).trans Cc0_0_1.out)
  have Cc1_0_2 : Hid (w2.cell? ⟨w.heap.size + 1, 0, none⟩ = some (.slice A1_0 xs1_0.length c1_0)) := Lib.hid ((G2.out.cell (p := ⟨w.heap.size + 1, 0, none⟩) (show w.heap.size + 1 < _ from by have := LT1.out; omega)).trans Cc1_0_1.out)
  have LT2 : Hid (w.heap.size + 2 ≤ w2.heap.size) := Lib.hid (by have := LT1.out; have := SZ2.out; omega)
  by_cases neg1 : l1 < 0
  · skip
    have qCc0_0_ := Cc0_0_2.out
    have qCc1_0_ := Cc1_0_2.out
    go_wp2_with fail
    go_ret
    exact ⟨rfl, HB2.out⟩
  have SM1 := Lib.hid (P1.out (by omega))
  have HSa : Hid (∀ W, Below w2.heap.size w2 W → W.cell? ⟨w.heap.size, 0, none⟩ = some (.slice A0_0 xs0_0.length c0_0) ∧ W.cell? ⟨w.heap.size + 1, 0, none⟩ = some (.slice A1_0 xs1_0.length c1_0)) := Lib.hid (fun W hW => ⟨(hW.cell (p := ⟨w.heap.size, 0, none⟩) (show w.heap.size < _ from by have := LT2.out; omega)).trans Cc0_0_2.out, (hW.cell (p := ⟨w.heap.size + 1, 0, none⟩) (show w.heap.size + 1 < _ from by have := LT2.out; omega)).trans Cc1_0_2.out⟩)
  have HBd : Hid (Below w.heap.size w w2.drew) := Lib.hid HB2.out.drew
  have qCc0_0_ := Cc0_0_2.out
  have qCc1_0_ := Cc1_0_2.out
  go_wp2
  clear qCc0_0_ qCc1_0_
  go_region_held3 (fun W => W.cell? ⟨w.heap.size, 0, none⟩ = some (.slice A0_0 xs0_0.length c0_0) ∧ W.cell? ⟨w.heap.size + 1, 0, none⟩ = some (.slice A1_0 xs1_0.length c1_0)) (exact HSa.out _ (by first | exact kba2 | exact kba1 | exact kba0 | exact (Below.refl _ _).drew))
    ((first | (go_at_call 16; go_fit (toHp_rd (H0_0.out.at (Nat.le_refl _) (HB2.out.trans (((Below.refl _ _).drew).mono HB2.out.size))) (Nat.le_refl _) SM0.out); rintro e ua0 ⟨SA0_0, rfl, r0_0, ga0⟩; have S0_0d := Lib.hid r0_0; clear r0_0; have kba0 : Below w2.heap.size w2 ua0 := ((Below.refl _ _).drew.trans ga0)) | (go_at_call 16; go_fit (toHp_rd (H1_0.out.at (Nat.le_refl _) (HB2.out.trans ((kba0).mono HB2.out.size))) (Nat.le_refl _) SM1.out); rintro e ua1 ⟨SA1_0, rfl, r1_0, ga1⟩; have S1_0d := Lib.hid r1_0; clear r1_0; have kba1 : Below w2.heap.size w2 ua1 := (kba0.trans (ga1.mono kba0.size))) | (go_at_call 19; go_fit (specSameHeap_any (S0_0d.out.at (Nat.le_refl _) ga1) S1_0d.out (Nat.le_refl _)); rintro e w3 ⟨rfl, ga2⟩; have kba2 : Below w2.heap.size w2 w3 := (kba1.trans (ga2.mono kba1.size)))))
  try simp only [Exit.then]
  have SZ3 := Lib.hid kba2.size; have G3 := Lib.hid kba2
  have HB3 : Hid (Below w.heap.size w w3) := Lib.hid (HB2.out.trans (G3.out.mono HB2.out.size))
  have Cc0_0_3 : Hid (w3.cell? ⟨w.heap.size, 0, none⟩ = some (.slice A0_0 xs0_0.length c0_0)) := Lib.hid ((G3.out.cell (p := ⟨w.heap.size, 0, none⟩) (show w.heap.size < _ from by have := LT2.out; omega)).trans Cc0_0_2.out)
  have Cc1_0_3 : Hid (w3.cell? ⟨w.heap.size + 1, 0, none⟩ = some (.slice A1_0 xs1_0.length c1_0)) := Lib.hid ((G3.out.cell (p := ⟨w.heap.size + 1, 0, none⟩) (show w.heap.size + 1 < _ from by have := LT2.out; omega)).trans Cc1_0_2.out)
  have LT3 : Hid (w.heap.size + 2 ≤ w3.heap.size) := Lib.hid (by have := LT2.out; have := SZ3.out; omega)
  have qCc0_0_ := Cc0_0_3.out
  have qCc1_0_ := Cc1_0_3.out
  go_wp2_with fail
  clear qCc0_0_ qCc1_0_
  refine (toHp_rd (H0_0.out.at (Nat.le_refl _) HB3.out) (Nat.le_refl _) SM0.out).mono ?_
  rintro e w4 ⟨XA0_0, rfl, r0_0, g⟩
  have G4 := Lib.hid g; have SZ4 := Lib.hid g.size; clear g
  have X0_0_4 : Hid (RiT w4.heap.size w4 (.slice XA0_0 xs0_0.length xs0_0.length) xs0_0) := Lib.hid r0_0; clear r0_0
  have HB4 : Hid (Below w.heap.size w w4) := Lib.hid (HB3.out.trans (G4.out.mono HB3.out.size))
  have Cc0_0_4 : Hid (w4.cell? ⟨w.heap.size, 0, none⟩ = some (.slice A0_0 xs0_0.length c0_0)) := Lib.hid ((G4.out.cell (p := ⟨w.heap.size, 0, none⟩) (show w.heap.size < _ from by have := LT3.out; omega)).trans Cc0_0_3.out)
  have Cc1_0_4 : Hid (w4.cell? ⟨w.heap.size + 1, 0, none⟩ = some (.slice A1_0 xs1_0.length c1_0)) := Lib.hid ((G4.out.cell (p := ⟨w.heap.size + 1, 0, none⟩) (show w.heap.size + 1 < _ from by have := LT3.out; omega)).trans Cc1_0_3.out)
  have LT4 : Hid (w.heap.size + 2 ≤ w4.heap.size) := Lib.hid (by have := LT3.out; have := SZ4.out; omega)
  have Hi0 : Hid ((Try.prog.info? 27).map (·.size) = some (#[.slice XA0_0 xs0_0.length xs0_0.length] : Array Value).size) := Lib.hid (by kernel_rfl)
  have H10 : Hid ((#[.slice XA0_0 xs0_0.length xs0_0.length] : Array Value).all (·.oneCell') = true) := Lib.hid (by simp [Value.oneCell'])
  have Gx0 : Hid (Below w4.heap.size w4 (w4.alloc (.cells #[.slice XA0_0 xs0_0.length xs0_0.length] 27))) := Lib.hid ((Below.refl _ _).alloc (Nat.le_refl _) _)
  have SZ5 : Hid (w4.heap.size + 1 ≤ (w4.alloc (.cells #[.slice XA0_0 xs0_0.length xs0_0.length] 27)).heap.size) := Lib.hid (by simp)
  have HB5 : Hid (Below w.heap.size w (w4.alloc (.cells #[.slice XA0_0 xs0_0.length xs0_0.length] 27))) := Lib.hid (HB4.out.trans (Gx0.out.mono HB4.out.size))
  have Cc0_0_5 : Hid ((w4.alloc (.cells #[.slice XA0_0 xs0_0.length xs0_0.length] 27)).cell? ⟨w.heap.size, 0, none⟩ = some (.slice A0_0 xs0_0.length c0_0)) := Lib.hid ((Gx0.out.cell (p := ⟨w.heap.size, 0, none⟩) (show w.heap.size < _ from by have := LT4.out; omega)).trans Cc0_0_4.out)
  have Cc1_0_5 : Hid ((w4.alloc (.cells #[.slice XA0_0 xs0_0.length xs0_0.length] 27)).cell? ⟨w.heap.size + 1, 0, none⟩ = some (.slice A1_0 xs1_0.length c1_0)) := Lib.hid ((Gx0.out.cell (p := ⟨w.heap.size + 1, 0, none⟩) (show w.heap.size + 1 < _ from by have := LT4.out; omega)).trans Cc1_0_4.out)
  have X0_0_5 : Hid (RiT (w4.alloc (.cells #[.slice XA0_0 xs0_0.length xs0_0.length] 27)).heap.size (w4.alloc (.cells #[.slice XA0_0 xs0_0.length xs0_0.length] 27)) (.slice XA0_0 xs0_0.length xs0_0.length) xs0_0) := Lib.hid (X0_0_4.out.at (Nat.le_refl _) Gx0.out)
  have LT5 : Hid (w.heap.size + 2 ≤ (w4.alloc (.cells #[.slice XA0_0 xs0_0.length xs0_0.length] 27)).heap.size ∧ w4.heap.size < (w4.alloc (.cells #[.slice XA0_0 xs0_0.length xs0_0.length] 27)).heap.size) := Lib.hid (by have := LT4.out; have := SZ5.out; omega)
  have CX0_0_5 : Hid ((w4.alloc (.cells #[.slice XA0_0 xs0_0.length xs0_0.length] 27)).cell? ⟨w4.heap.size, 0, none⟩ = some (.slice XA0_0 xs0_0.length xs0_0.length)) := Lib.hid (by rw [cell_of_row _ _ _ _ _ _ (heap_alloc_new w4 _)]; rfl)
  have qCc0_0_ := Cc0_0_5.out
  have qCc1_0_ := Cc1_0_5.out
  have qCX0_0_ := CX0_0_5.out
  go_wp2_with (refine wpList_store_last rfl 27 (.tmp 7) (.tmp 26) rfl #[.slice XA0_0 xs0_0.length xs0_0.length] _ 27 rfl rfl Hi0.out rfl H10.out ?_)
  clear qCc0_0_ qCc1_0_ qCX0_0_
  generalize (w4.alloc (.cells #[.slice XA0_0 xs0_0.length xs0_0.length] 27)) = w5 at *
  refine (toHp_rd (H1_0.out.at (Nat.le_refl _) HB5.out) (Nat.le_refl _) SM1.out).mono ?_
  rintro e w6 ⟨XA1_0, rfl, r1_0, g⟩
  have G6 := Lib.hid g; have SZ6 := Lib.hid g.size; clear g
  have X1_0_6 : Hid (RiT w6.heap.size w6 (.slice XA1_0 xs1_0.length xs1_0.length) xs1_0) := Lib.hid r1_0; clear r1_0
  have HB6 : Hid (Below w.heap.size w w6) := Lib.hid (HB5.out.trans (G6.out.mono HB5.out.size))
  have Cc0_0_6 : Hid (w6.cell? ⟨w.heap.size, 0, none⟩ = some (.slice A0_0 xs0_0.length c0_0)) := Lib.hid ((G6.out.cell (p := ⟨w.heap.size, 0, none⟩) (show w.heap.size < _ from by have := LT5.out; omega)).trans Cc0_0_5.out)
  have Cc1_0_6 : Hid (w6.cell? ⟨w.heap.size + 1, 0, none⟩ = some (.slice A1_0 xs1_0.length c1_0)) := Lib.hid ((G6.out.cell (p := ⟨w.heap.size + 1, 0, none⟩) (show w.heap.size + 1 < _ from by have := LT5.out; omega)).trans Cc1_0_5.out)
  have CX0_0_6 : Hid (w6.cell? ⟨w4.heap.size, 0, none⟩ = some (.slice XA0_0 xs0_0.length xs0_0.length)) := Lib.hid ((G6.out.cell (p := ⟨w4.heap.size, 0, none⟩) (show w4.heap.size < _ from by have := LT5.out; omega)).trans CX0_0_5.out)
  have X0_0_6 : Hid (RiT w6.heap.size w6 (.slice XA0_0 xs0_0.length xs0_0.length) xs0_0) := Lib.hid (X0_0_5.out.at (Nat.le_refl _) G6.out)
  have LT6 : Hid (w.heap.size + 2 ≤ w6.heap.size ∧ w4.heap.size < w6.heap.size) := Lib.hid (by have := LT5.out; have := SZ6.out; omega)
  have Hi1 : Hid ((Try.prog.info? 27).map (·.size) = some (#[.slice XA1_0 xs1_0.length xs1_0.length] : Array Value).size) := Lib.hid (by kernel_rfl)
  have H11 : Hid ((#[.slice XA1_0 xs1_0.length xs1_0.length] : Array Value).all (·.oneCell') = true) := Lib.hid (by simp [Value.oneCell'])
  have Gx1 : Hid (Below w6.heap.size w6 (w6.alloc (.cells #[.slice XA1_0 xs1_0.length xs1_0.length] 27))) := Lib.hid ((Below.refl _ _).alloc (Nat.le_refl _) _)
  have SZ7 : Hid (w6.heap.size + 1 ≤ (w6.alloc (.cells #[.slice XA1_0 xs1_0.length xs1_0.length] 27)).heap.size) := Lib.hid (by simp)
  have HB7 : Hid (Below w.heap.size w (w6.alloc (.cells #[.slice XA1_0 xs1_0.length xs1_0.length] 27))) := Lib.hid (HB6.out.trans (Gx1.out.mono HB6.out.size))
  have Cc0_0_7 : Hid ((w6.alloc (.cells #[.slice XA1_0 xs1_0.length xs1_0.length] 27)).cell? ⟨w.heap.size, 0, none⟩ = some (.slice A0_0 xs0_0.length c0_0)) := Lib.hid ((Gx1.out.cell (p := ⟨w.heap.size, 0, none⟩) (show w.heap.size < _ from by have := LT6.out; omega)).trans Cc0_0_6.out)
  have Cc1_0_7 : Hid ((w6.alloc (.cells #[.slice XA1_0 xs1_0.length xs1_0.length] 27)).cell? ⟨w.heap.size + 1, 0, none⟩ = some (.slice A1_0 xs1_0.length c1_0)) := Lib.hid ((Gx1.out.cell (p := ⟨w.heap.size + 1, 0, none⟩) (show w.heap.size + 1 < _ from by have := LT6.out; omega)).trans Cc1_0_6.out)
  have CX0_0_7 : Hid ((w6.alloc (.cells #[.slice XA1_0 xs1_0.length xs1_0.length] 27)).cell? ⟨w4.heap.size, 0, none⟩ = some (.slice XA0_0 xs0_0.length xs0_0.length)) := Lib.hid ((Gx1.out.cell (p := ⟨w4.heap.size, 0, none⟩) (show w4.heap.size < _ from by have := LT6.out; omega)).trans CX0_0_6.out)
  have X0_0_7 : Hid (RiT (w6.alloc (.cells #[.slice XA1_0 xs1_0.length xs1_0.length] 27)).heap.size (w6.alloc (.cells #[.slice XA1_0 xs1_0.length xs1_0.length] 27)) (.slice XA0_0 xs0_0.length xs0_0.length) xs0_0) := Lib.hid (X0_0_6.out.at (Nat.le_refl _) Gx1.out)
  have X1_0_7 : Hid (RiT (w6.alloc (.cells #[.slice XA1_0 xs1_0.length xs1_0.length] 27)).heap.size (w6.alloc (.cells #[.slice XA1_0 xs1_0.length xs1_0.length] 27)) (.slice XA1_0 xs1_0.length xs1_0.length) xs1_0) := Lib.hid (X1_0_6.out.at (Nat.le_refl _) Gx1.out)
  have LT7 : Hid (w.heap.size + 2 ≤ (w6.alloc (.cells #[.slice XA1_0 xs1_0.length xs1_0.length] 27)).heap.size ∧ w4.heap.size < (w6.alloc (.cells #[.slice XA1_0 xs1_0.length xs1_0.length] 27)).heap.size ∧ w6.heap.size < (w6.alloc (.cells #[.slice XA1_0 xs1_0.length xs1_0.length] 27)).heap.size) := Lib.hid (by have := LT6.out; have := SZ7.out; omega)
  have CX1_0_7 : Hid ((w6.alloc (.cells #[.slice XA1_0 xs1_0.length xs1_0.length] 27)).cell? ⟨w6.heap.size, 0, none⟩ = some (.slice XA1_0 xs1_0.length xs1_0.length)) := Lib.hid (by rw [cell_of_row _ _ _ _ _ _ (heap_alloc_new w6 _)]; rfl)
  have qCc0_0_ := Cc0_0_7.out
  have qCc1_0_ := Cc1_0_7.out
  have qCX0_0_ := CX0_0_7.out
  have qCX1_0_ := CX1_0_7.out
  go_wp2_with (refine wpList_store_last rfl 27 (.tmp 8) (.tmp 28) rfl #[.slice XA1_0 xs1_0.length xs1_0.length] _ 27 rfl rfl Hi1.out rfl H11.out ?_)
  clear qCc0_0_ qCc1_0_ qCX0_0_ qCX1_0_
  generalize (w6.alloc (.cells #[.slice XA1_0 xs1_0.length xs1_0.length] 27)) = w7 at *
  refine (implSameHeap_any X0_0_7.out X1_0_7.out (Nat.le_refl _)).mono ?_
  rintro e w8 ⟨rfl, g⟩
  have G8 := Lib.hid g; have SZ8 := Lib.hid g.size; clear g
  have HB8 : Hid (Below w.heap.size w w8) := Lib.hid (HB7.out.trans (G8.out.mono HB7.out.size))
  have Cc0_0_8 : Hid (w8.cell? ⟨w.heap.size, 0, none⟩ = some (.slice A0_0 xs0_0.length c0_0)) := Lib.hid ((G8.out.cell (p := ⟨w.heap.size, 0, none⟩) (show w.heap.size < _ from by have := LT7.out; omega)).trans Cc0_0_7.out)
  have Cc1_0_8 : Hid (w8.cell? ⟨w.heap.size + 1, 0, none⟩ = some (.slice A1_0 xs1_0.length c1_0)) := Lib.hid ((G8.out.cell (p := ⟨w.heap.size + 1, 0, none⟩) (show w.heap.size + 1 < _ from by have := LT7.out; omega)).trans Cc1_0_7.out)
  have CX0_0_8 : Hid (w8.cell? ⟨w4.heap.size, 0, none⟩ = some (.slice XA0_0 xs0_0.length xs0_0.length)) := Lib.hid ((G8.out.cell (p := ⟨w4.heap.size, 0, none⟩) (show w4.heap.size < _ from by have := LT7.out; omega)).trans CX0_0_7.out)
  have CX1_0_8 : Hid (w8.cell? ⟨w6.heap.size, 0, none⟩ = some (.slice XA1_0 xs1_0.length xs1_0.length)) := Lib.hid ((G8.out.cell (p := ⟨w6.heap.size, 0, none⟩) (show w6.heap.size < _ from by have := LT7.out; omega)).trans CX1_0_7.out)
  have X0_0_8 : Hid (RiT w8.heap.size w8 (.slice XA0_0 xs0_0.length xs0_0.length) xs0_0) := Lib.hid (X0_0_7.out.at (Nat.le_refl _) G8.out)
  have X1_0_8 : Hid (RiT w8.heap.size w8 (.slice XA1_0 xs1_0.length xs1_0.length) xs1_0) := Lib.hid (X1_0_7.out.at (Nat.le_refl _) G8.out)
  have LT8 : Hid (w.heap.size + 2 ≤ w8.heap.size ∧ w4.heap.size < w8.heap.size ∧ w6.heap.size < w8.heap.size) := Lib.hid (by have := LT7.out; have := SZ8.out; omega)
  have HSe0 : Hid (∀ W, Below w8.heap.size w8 W → W.cell? ⟨w.heap.size, 0, none⟩ = some (.slice A0_0 xs0_0.length c0_0) ∧ W.cell? ⟨w.heap.size + 1, 0, none⟩ = some (.slice A1_0 xs1_0.length c1_0) ∧ W.cell? ⟨w4.heap.size, 0, none⟩ = some (.slice XA0_0 xs0_0.length xs0_0.length) ∧ W.cell? ⟨w6.heap.size, 0, none⟩ = some (.slice XA1_0 xs1_0.length xs1_0.length)) := Lib.hid (fun W hW => ⟨(hW.cell (p := ⟨w.heap.size, 0, none⟩) (show w.heap.size < _ from by have := LT8.out; omega)).trans Cc0_0_8.out, (hW.cell (p := ⟨w.heap.size + 1, 0, none⟩) (show w.heap.size + 1 < _ from by have := LT8.out; omega)).trans Cc1_0_8.out, (hW.cell (p := ⟨w4.heap.size, 0, none⟩) (show w4.heap.size < _ from by have := LT8.out; omega)).trans CX0_0_8.out, (hW.cell (p := ⟨w6.heap.size, 0, none⟩) (show w6.heap.size < _ from by have := LT8.out; omega)).trans CX1_0_8.out⟩)
  have HBd : Hid (Below w.heap.size w w8.drew) := Lib.hid HB8.out.drew
  have qCc0_0_ := Cc0_0_8.out
  have qCc1_0_ := Cc1_0_8.out
  have qCX0_0_ := CX0_0_8.out
  have qCX1_0_ := CX1_0_8.out
  go_wp2
  clear qCc0_0_ qCc1_0_ qCX0_0_ qCX1_0_
  go_region_held3 (fun W => W.cell? ⟨w.heap.size, 0, none⟩ = some (.slice A0_0 xs0_0.length c0_0) ∧ W.cell? ⟨w.heap.size + 1, 0, none⟩ = some (.slice A1_0 xs1_0.length c1_0) ∧ W.cell? ⟨w4.heap.size, 0, none⟩ = some (.slice XA0_0 xs0_0.length xs0_0.length) ∧ W.cell? ⟨w6.heap.size, 0, none⟩ = some (.slice XA1_0 xs1_0.length xs1_0.length)) (exact HSe0.out _ (by first | exact kbe01 | exact kbe00 | exact (Below.refl _ _).drew))
    ((first | (go_at_call 16; go_fit (toHp_rd (H0_0.out.at (Nat.le_refl _) (HB8.out.trans (((Below.refl _ _).drew).mono HB8.out.size))) (Nat.le_refl _) SM0.out); rintro e ue00 ⟨EA0_0, rfl, r0_0, ge00⟩; have E0_0d := Lib.hid r0_0; clear r0_0; have kbe00 : Below w8.heap.size w8 ue00 := ((Below.refl _ _).drew.trans ge00)) | (go_at_call 18; go_fit (eqHp_any (X0_0_8.out.at (Nat.le_refl _) (kbe00)) E0_0d.out (Nat.le_refl _)); rintro e w9 ⟨rfl, ge01⟩; have kbe01 : Below w8.heap.size w8 w9 := (kbe00.trans (ge01.mono kbe00.size)))))
  try simp only [Exit.then]
  have SZ9 := Lib.hid kbe01.size; have G9 := Lib.hid kbe01
  have HB9 : Hid (Below w.heap.size w w9) := Lib.hid (HB8.out.trans (G9.out.mono HB8.out.size))
  have Cc0_0_9 : Hid (w9.cell? ⟨w.heap.size, 0, none⟩ = some (.slice A0_0 xs0_0.length c0_0)) := Lib.hid ((G9.out.cell (p := ⟨w.heap.size, 0, none⟩) (show w.heap.size < _ from by have := LT8.out; omega)).trans Cc0_0_8.out)
  have Cc1_0_9 : Hid (w9.cell? ⟨w.heap.size + 1, 0, none⟩ = some (.slice A1_0 xs1_0.length c1_0)) := Lib.hid ((G9.out.cell (p := ⟨w.heap.size + 1, 0, none⟩) (show w.heap.size + 1 < _ from by have := LT8.out; omega)).trans Cc1_0_8.out)
  have CX0_0_9 : Hid (w9.cell? ⟨w4.heap.size, 0, none⟩ = some (.slice XA0_0 xs0_0.length xs0_0.length)) := Lib.hid ((G9.out.cell (p := ⟨w4.heap.size, 0, none⟩) (show w4.heap.size < _ from by have := LT8.out; omega)).trans CX0_0_8.out)
  have CX1_0_9 : Hid (w9.cell? ⟨w6.heap.size, 0, none⟩ = some (.slice XA1_0 xs1_0.length xs1_0.length)) := Lib.hid ((G9.out.cell (p := ⟨w6.heap.size, 0, none⟩) (show w6.heap.size < _ from by have := LT8.out; omega)).trans CX1_0_8.out)
  have X0_0_9 : Hid (RiT w9.heap.size w9 (.slice XA0_0 xs0_0.length xs0_0.length) xs0_0) := Lib.hid (X0_0_8.out.at (Nat.le_refl _) G9.out)
  have X1_0_9 : Hid (RiT w9.heap.size w9 (.slice XA1_0 xs1_0.length xs1_0.length) xs1_0) := Lib.hid (X1_0_8.out.at (Nat.le_refl _) G9.out)
  have LT9 : Hid (w.heap.size + 2 ≤ w9.heap.size ∧ w4.heap.size < w9.heap.size ∧ w6.heap.size < w9.heap.size) := Lib.hid (by have := LT8.out; have := SZ9.out; omega)
  have HSe1 : Hid (∀ W, Below w9.heap.size w9 W → W.cell? ⟨w.heap.size, 0, none⟩ = some (.slice A0_0 xs0_0.length c0_0) ∧ W.cell? ⟨w.heap.size + 1, 0, none⟩ = some (.slice A1_0 xs1_0.length c1_0) ∧ W.cell? ⟨w4.heap.size, 0, none⟩ = some (.slice XA0_0 xs0_0.length xs0_0.length) ∧ W.cell? ⟨w6.heap.size, 0, none⟩ = some (.slice XA1_0 xs1_0.length xs1_0.length)) := Lib.hid (fun W hW => ⟨(hW.cell (p := ⟨w.heap.size, 0, none⟩) (show w.heap.size < _ from by have := LT9.out; omega)).trans Cc0_0_9.out, (hW.cell (p := ⟨w.heap.size + 1, 0, none⟩) (show w.heap.size + 1 < _ from by have := LT9.out; omega)).trans Cc1_0_9.out, (hW.cell (p := ⟨w4.heap.size, 0, none⟩) (show w4.heap.size < _ from by have := LT9.out; omega)).trans CX0_0_9.out, (hW.cell (p := ⟨w6.heap.size, 0, none⟩) (show w6.heap.size < _ from by have := LT9.out; omega)).trans CX1_0_9.out⟩)
  have HBd : Hid (Below w.heap.size w w9.drew) := Lib.hid HB9.out.drew
  have qCc0_0_ := Cc0_0_9.out
  have qCc1_0_ := Cc1_0_9.out
  have qCX0_0_ := CX0_0_9.out
  have qCX1_0_ := CX1_0_9.out
  go_wp2
  clear qCc0_0_ qCc1_0_ qCX0_0_ qCX1_0_
  go_region_held3 (fun W => W.cell? ⟨w.heap.size, 0, none⟩ = some (.slice A0_0 xs0_0.length c0_0) ∧ W.cell? ⟨w.heap.size + 1, 0, none⟩ = some (.slice A1_0 xs1_0.length c1_0) ∧ W.cell? ⟨w4.heap.size, 0, none⟩ = some (.slice XA0_0 xs0_0.length xs0_0.length) ∧ W.cell? ⟨w6.heap.size, 0, none⟩ = some (.slice XA1_0 xs1_0.length xs1_0.length)) (exact HSe1.out _ (by first | exact kbe11 | exact kbe10 | exact (Below.refl _ _).drew))
    ((first | (go_at_call 16; go_fit (toHp_rd (H1_0.out.at (Nat.le_refl _) (HB9.out.trans (((Below.refl _ _).drew).mono HB9.out.size))) (Nat.le_refl _) SM1.out); rintro e ue10 ⟨EA1_0, rfl, r1_0, ge10⟩; have E1_0d := Lib.hid r1_0; clear r1_0; have kbe10 : Below w9.heap.size w9 ue10 := ((Below.refl _ _).drew.trans ge10)) | (go_at_call 18; go_fit (eqHp_any (X1_0_9.out.at (Nat.le_refl _) (kbe10)) E1_0d.out (Nat.le_refl _)); rintro e w10 ⟨rfl, ge11⟩; have kbe11 : Below w9.heap.size w9 w10 := (kbe10.trans (ge11.mono kbe10.size)))))
  try simp only [Exit.then]
  have SZ10 := Lib.hid kbe11.size; have G10 := Lib.hid kbe11
  have HB10 : Hid (Below w.heap.size w w10) := Lib.hid (HB9.out.trans (G10.out.mono HB9.out.size))
  have Cc0_0_10 : Hid (w10.cell? ⟨w.heap.size, 0, none⟩ = some (.slice A0_0 xs0_0.length c0_0)) := Lib.hid ((G10.out.cell (p := ⟨w.heap.size, 0, none⟩) (show w.heap.size < _ from by have := LT9.out; omega)).trans Cc0_0_9.out)
  have Cc1_0_10 : Hid (w10.cell? ⟨w.heap.size + 1, 0, none⟩ = some (.slice A1_0 xs1_0.length c1_0)) := Lib.hid ((G10.out.cell (p := ⟨w.heap.size + 1, 0, none⟩) (show w.heap.size + 1 < _ from by have := LT9.out; omega)).trans Cc1_0_9.out)
  have CX0_0_10 : Hid (w10.cell? ⟨w4.heap.size, 0, none⟩ = some (.slice XA0_0 xs0_0.length xs0_0.length)) := Lib.hid ((G10.out.cell (p := ⟨w4.heap.size, 0, none⟩) (show w4.heap.size < _ from by have := LT9.out; omega)).trans CX0_0_9.out)
  have CX1_0_10 : Hid (w10.cell? ⟨w6.heap.size, 0, none⟩ = some (.slice XA1_0 xs1_0.length xs1_0.length)) := Lib.hid ((G10.out.cell (p := ⟨w6.heap.size, 0, none⟩) (show w6.heap.size < _ from by have := LT9.out; omega)).trans CX1_0_9.out)
  have X0_0_10 : Hid (RiT w10.heap.size w10 (.slice XA0_0 xs0_0.length xs0_0.length) xs0_0) := Lib.hid (X0_0_9.out.at (Nat.le_refl _) G10.out)
  have X1_0_10 : Hid (RiT w10.heap.size w10 (.slice XA1_0 xs1_0.length xs1_0.length) xs1_0) := Lib.hid (X1_0_9.out.at (Nat.le_refl _) G10.out)
  have LT10 : Hid (w.heap.size + 2 ≤ w10.heap.size ∧ w4.heap.size < w10.heap.size ∧ w6.heap.size < w10.heap.size) := Lib.hid (by have := LT9.out; have := SZ10.out; omega)
  have qCc0_0_ := Cc0_0_10.out
  have qCc1_0_ := Cc1_0_10.out
  have qCX0_0_ := CX0_0_10.out
  have qCX1_0_ := CX1_0_10.out
  go_wp2_with fail
  clear qCc0_0_ qCc1_0_ qCX0_0_ qCX1_0_
  go_ret
  exact ⟨rfl, HB10.out⟩
theorem own : ownKnob Try.prog.godebug = none := by kernel_rfl
theorem laidOut : laidOutB Try.prog = true := by kernel_rfl
set_option maxRecDepth 100000 in
theorem lifted (os : Os) (started : os.Started) (H : Type) (enc : TypeId × Value → H) :
    ReturnsInHanded {} Try.checked os 4 .any (Rows.fnExactSameHeapSpec.pre6 enc Try.prog Try.f4 Rows.fnExactSameHeapRow.domain false) (Rows.fnExactSameHeapSpec.post enc Try.prog Try.f4 false true false false) := by
  refine returnsInHanded_of_change (C := Try.checked) own started (by kernel_rfl) Try.func4
    (ChangeSpec.witness6 (enc := enc) (C := Try.checked) false ⟨#[], #[.agg #[.slice none 0 0], .agg #[.slice none 0 0]], []⟩ 8 (by kernel_rfl) (by kernel_rfl) (by kernel_rfl) (by kernel_rfl)) ?_
  intro W base args ds gs before hval0 hW hcnd _
  have hval : ∀ (j : Nat) t v, Try.f4.params[j]? = some t → args[j]? = some v → Value.okWide Try.prog W .any base t v := hval0
  have hW' := hW
  obtain ⟨p, q, hA0, hV, rfl, hfz, hnd⟩ := hW
  have hA : DataW.TrodAll enc Try.prog W 0 (fun _ => true) true Try.f4.params.toList args.toList ds p := hA0
  rw [Try.params4] at hA hval
  obtain ⟨v0, vs0, d0, ds0, p0, q0, hargs, rfl, rfl, h0, r0⟩ := trodAll_cons hA
  obtain ⟨v1, vs1, d1, ds1, p1, q1, rfl, rfl, rfl, h1, r1⟩ := trodAll_cons r0
  obtain ⟨rfl, rfl, rfl⟩ := trodAll_nil r1
  obtain rfl : args = #[v0, v1] := by cases args; simp_all
  obtain ⟨rfl, rfl⟩ := trodVars_none hV
  have k0 := h0
  have lt0 : ∀ x ∈ p0, x.block < W.heap.size := by obtain ⟨m, hm⟩ := k0; exact DataW.trod_lt m _ _ _ hm
  obtain ⟨v0_0, xs0_0, rfl, g0_0⟩ := open_heap (hval 0 24 v0 rfl rfl) h0
  have k1 := h1
  have lt1 : ∀ x ∈ p1, x.block < W.heap.size := by obtain ⟨m, hm⟩ := k1; exact DataW.trod_lt m _ _ _ hm
  obtain ⟨v1_0, xs1_0, rfl, g1_0⟩ := open_heap (hval 1 24 v1 rfl rfl) h1
  clear hA0 hval0
  refine (walk W _ _ _ _ g0_0 g1_0).mono fun e W' ⟨he, bel⟩ => ?_
  subst he
  exact ⟨_, rfl, _, _, _, [], _, [], hW', (trodAll_cons_mk (shut_bool Try.underlying4 _) trodAll_mk0), (trodAll_cons_mk (Below.trod laidOut (by kernel_rfl) (of_decide_eq_true (by kernel_rfl)) k0 bel lt0) (trodAll_cons_mk (Below.trod laidOut (by kernel_rfl) (of_decide_eq_true (by kernel_rfl)) k1 bel lt1) trodAll_mk0)), rfl, bel.frame _, fun h => by cases h⟩
theorem closed : joinedFacts Try.pinned.checked.prog 4 Try.f4 Rows.fnExactSameHeapSpec Rows.fnExactSameHeapRow = true := by
  unfold joinedFacts
  rw [mayE, lifF, mkP]
  kernel_rfl
theorem over : Rows.fnExactSameHeapRow.holds Try.pinned (OpenSpec.ofChange Rows.fnExactSameHeapSpec) :=
  OpenClaim.holds_of_wide 4 Try.f4 rfl rfl rfl rfl rfl rfl rfl ⟨rfl, rfl, rfl, rfl, rfl⟩ rfl rfl rfl rfl rfl (by kernel_rfl) Try.func4 closed
    (of_decide_eq_true (by kernel_rfl)) (by unfold Func.isWrapper; rw [if_neg (of_decide_eq_false (by kernel_rfl))]; exact ⟨rfl, rfl⟩)
    (fun os started H enc _ => lifted os started H enc)
theorem proved : Rows.FnExactSameHeapSaid := over
end Go.Proofs.Ytabnglimchjgpaa.fnExactSameHeap
