/- The statement of the law FnExactMessageOf: whatever the input, the program's function answers as the model's, and the input reads as it did. Its conditions are the given statement's own; nothing is added. -/
import Derived.Test.YtlickjmdlooapaaJf
import Derived.Test.YtlickjmdlooapaaMsI
import Derived.Test.YtlickjmdlooapaaFrmH
import Derived.Test.YtlickjmdlooapaaHdr
import Derived.ProofKit
import Derived.OpenShut
import Derived.ShutString
import Derived.ChangeOld
import Derived.Below
import Derived.Deep.DeepFit
import Derived.Deep.WholeRow
import Derived.Deep.RegionHeld3
namespace Go.Proofs.Ytlickjmdlooapaa.fnExactMessageOf
open Go.ChangeShapes Go.WideShapes Go.ChangeAt Go.RowKit
open Go.ChangeMaps (open_string shut_string)
set_option linter.unusedVariables false
theorem oldM {w1 u : World} {p : Addr} {v : Value} (g : Below w1.heap.size w1 u) (h : w1.cell? p = some v) : u.cell? p = some v := (g.cell (World.block_lt_of_cell? w1 p h)).trans h
set_option maxHeartbeats 8000000 in
set_option maxRecDepth 100000 in
theorem walk (w : World) (n0 : Int) (n1 : Int) (v2 : Value) (xs2 : List EM) (a1 : Int) (h0 : InI n0) (h1 : InI n1) (h2 : RiM w.heap.size w v2 xs2) (w_a1 : (Lit.int .i64 a1).wf = true) :
    Calls Try.prog 11 #[.agg #[.int .i64 n0, .int .i64 n1, v2], .int .i64 a1] w (GivesB (.bool true) w) := by
  clear h0
  clear h1
  have H2 := Lib.hid h2; obtain ⟨A2, c2, rfl, _⟩ := h2
  clear w_a1
  have S0 := Lib.hid (fun (W : World) (X2 : Option Addr) (g2 : RiM W.heap.size W (.slice X2 xs2.length xs2.length) xs2) => specMessageOf_any (k := n0) (r := n1) (x := a1) g2 (Nat.le_refl _))
  have P0 := Lib.hid (fun (W : World) (X2 : Option Addr) (g2 : RiM W.heap.size W (.slice X2 xs2.length xs2.length) xs2) => implMessageOf_any (k := n0) (r := n1) (x := a1) g2 (Nat.le_refl _))
  obtain ⟨x0, x1, x2, hA⟩ : ∃ x0 x1 : Int, ∃ x2 : ByteArray, emA (moV n0 n1 xs2 a1) = #[.int .i64 x0, .int .i64 x1, .string x2] := ⟨(moV n0 n1 xs2 a1).1, (moV n0 n1 xs2 a1).2.1, (moV n0 n1 xs2 a1).2.2, rfl⟩
  rw [hA] at S0 P0
  clear hA
  obtain ⟨co, hco⟩ : ∃ co, co = moB n0 n1 xs2 a1 := ⟨_, rfl⟩
  rw [← hco] at S0 P0
  clear hco
  have HB0 : Hid (Below w.heap.size w (w.alloc (.cells #[.int .i64 n0, .int .i64 n1, .slice A2 xs2.length c2] 59))) := Lib.hid ((Below.refl _ _).alloc (Nat.le_refl _) _)
  have F0_0 : Hid ((w.alloc (.cells #[.int .i64 n0, .int .i64 n1, .slice A2 xs2.length c2] 59)).cell? ⟨w.heap.size, 0, none⟩ = some (.int .i64 n0)) := Lib.hid (by rw [cell_of_row _ _ _ _ _ _ (heap_alloc_new w _)]; rfl)
  have F1_0 : Hid ((w.alloc (.cells #[.int .i64 n0, .int .i64 n1, .slice A2 xs2.length c2] 59)).cell? ⟨w.heap.size, 1, none⟩ = some (.int .i64 n1)) := Lib.hid (by rw [cell_of_row _ _ _ _ _ _ (heap_alloc_new w _)]; rfl)
  have F2_0 : Hid ((w.alloc (.cells #[.int .i64 n0, .int .i64 n1, .slice A2 xs2.length c2] 59)).cell? ⟨w.heap.size, 2, none⟩ = some (.slice A2 xs2.length c2)) := Lib.hid (by rw [cell_of_row _ _ _ _ _ _ (heap_alloc_new w _)]; rfl)
  go_enter Try.func11, Try.ntmps11
  go_wp2_with fail
  generalize (w.alloc (.cells #[.int .i64 n0, .int .i64 n1, .slice A2 xs2.length c2] 59)) = w0 at *
  refine (szHeader_any (H2.out.at (Nat.le_refl _) HB0.out) (Nat.le_refl _) (1048576) (by omega) (by omega)).mono ?_
  rintro e w1 ⟨l0, rfl, hl0, hL0, hp0, g⟩
  have Pz := Lib.hid hp0; have G1 := Lib.hid g; clear hp0 g
  have F0_1 : Hid (w1.cell? ⟨w.heap.size, 0, none⟩ = some (.int .i64 n0)) := Lib.hid (oldM G1.out F0_0.out)
  have F1_1 : Hid (w1.cell? ⟨w.heap.size, 1, none⟩ = some (.int .i64 n1)) := Lib.hid (oldM G1.out F1_0.out)
  have F2_1 : Hid (w1.cell? ⟨w.heap.size, 2, none⟩ = some (.slice A2 xs2.length c2)) := Lib.hid (oldM G1.out F2_0.out)
  have HB1 : Hid (Below w.heap.size w w1) := Lib.hid (HB0.out.trans (G1.out.mono HB0.out.size))
  by_cases neg0 : l0 < 0
  · skip
    have qF0 := F0_1.out
    have qF1 := F1_1.out
    have qF2 := F2_1.out
    go_wp2_with fail
    go_ret
    exact ⟨rfl, HB1.out⟩
  have SM := Lib.hid (Pz.out (by omega))
  have qF0 := F0_1.out
  have qF1 := F1_1.out
  have qF2 := F2_1.out
  go_wp2_with fail
  clear qF0 qF1 qF2
  refine (toHeader_rd (H2.out.at (Nat.le_refl _) HB1.out) (Nat.le_refl _) SM.out).mono ?_
  rintro e w2 ⟨TA2, rfl, r2, g⟩
  have G2 := Lib.hid g; clear g
  have F0_2 : Hid (w2.cell? ⟨w.heap.size, 0, none⟩ = some (.int .i64 n0)) := Lib.hid (oldM G2.out F0_1.out)
  have F1_2 : Hid (w2.cell? ⟨w.heap.size, 1, none⟩ = some (.int .i64 n1)) := Lib.hid (oldM G2.out F1_1.out)
  have F2_2 : Hid (w2.cell? ⟨w.heap.size, 2, none⟩ = some (.slice A2 xs2.length c2)) := Lib.hid (oldM G2.out F2_1.out)
  have HB2 : Hid (Below w.heap.size w w2) := Lib.hid (HB1.out.trans (G2.out.mono HB1.out.size))
  have Tr2_2 : Hid (RiM w2.heap.size w2 (.slice TA2 xs2.length xs2.length) xs2) := Lib.hid r2; clear r2
  have qF0 := F0_2.out
  have qF1 := F1_2.out
  have qF2 := F2_2.out
  go_wp2_with fail
  clear qF0 qF1 qF2
  refine (S0.out _ _ Tr2_2.out).mono ?_
  rintro e w3 ⟨rfl, g⟩
  have G3 := Lib.hid g; clear g
  have F0_3 : Hid (w3.cell? ⟨w.heap.size, 0, none⟩ = some (.int .i64 n0)) := Lib.hid (oldM G3.out F0_2.out)
  have F1_3 : Hid (w3.cell? ⟨w.heap.size, 1, none⟩ = some (.int .i64 n1)) := Lib.hid (oldM G3.out F1_2.out)
  have F2_3 : Hid (w3.cell? ⟨w.heap.size, 2, none⟩ = some (.slice A2 xs2.length c2)) := Lib.hid (oldM G3.out F2_2.out)
  have Tr2_3 : Hid (RiM w3.heap.size w3 (.slice TA2 xs2.length xs2.length) xs2) := Lib.hid (Tr2_2.out.at (Nat.le_refl _) G3.out)
  have HB3 : Hid (Below w.heap.size w w3) := Lib.hid (HB2.out.trans (G3.out.mono HB2.out.size))
  have G4 : Hid (Below w3.heap.size w3 (w3.alloc (.cells #[.int .i64 x0, .int .i64 x1, .string x2] 70))) := Lib.hid ((Below.refl _ _).alloc (Nat.le_refl _) _)
  have F0_4 : Hid ((w3.alloc (.cells #[.int .i64 x0, .int .i64 x1, .string x2] 70)).cell? ⟨w.heap.size, 0, none⟩ = some (.int .i64 n0)) := Lib.hid (oldM G4.out F0_3.out)
  have F1_4 : Hid ((w3.alloc (.cells #[.int .i64 x0, .int .i64 x1, .string x2] 70)).cell? ⟨w.heap.size, 1, none⟩ = some (.int .i64 n1)) := Lib.hid (oldM G4.out F1_3.out)
  have F2_4 : Hid ((w3.alloc (.cells #[.int .i64 x0, .int .i64 x1, .string x2] 70)).cell? ⟨w.heap.size, 2, none⟩ = some (.slice A2 xs2.length c2)) := Lib.hid (oldM G4.out F2_3.out)
  have HB4 : Hid (Below w.heap.size w (w3.alloc (.cells #[.int .i64 x0, .int .i64 x1, .string x2] 70))) := Lib.hid (HB3.out.trans (G4.out.mono HB3.out.size))
  have B0_4 : Hid ((w3.alloc (.cells #[.int .i64 x0, .int .i64 x1, .string x2] 70)).cell? ⟨w3.heap.size, 0, none⟩ = some (.int .i64 x0)) := Lib.hid (by rw [cell_of_row _ _ _ _ _ _ (heap_alloc_new w3 _)]; rfl)
  have B1_4 : Hid ((w3.alloc (.cells #[.int .i64 x0, .int .i64 x1, .string x2] 70)).cell? ⟨w3.heap.size, 1, none⟩ = some (.int .i64 x1)) := Lib.hid (by rw [cell_of_row _ _ _ _ _ _ (heap_alloc_new w3 _)]; rfl)
  have B2_4 : Hid ((w3.alloc (.cells #[.int .i64 x0, .int .i64 x1, .string x2] 70)).cell? ⟨w3.heap.size, 2, none⟩ = some (.string x2)) := Lib.hid (by rw [cell_of_row _ _ _ _ _ _ (heap_alloc_new w3 _)]; rfl)
  have qF0 := F0_4.out
  have qF1 := F1_4.out
  have qF2 := F2_4.out
  have qB0 := B0_4.out
  have qB1 := B1_4.out
  have qB2 := B2_4.out
  go_wp2_with fail
  clear qF0 qF1 qF2 qB0 qB1 qB2
  generalize (w3.alloc (.cells #[.int .i64 x0, .int .i64 x1, .string x2] 70)) = w4 at *
  refine (toHeader_rd (H2.out.at (Nat.le_refl _) HB4.out) (Nat.le_refl _) SM.out).mono ?_
  rintro e w5 ⟨VA2, rfl, r2, g⟩
  have G5 := Lib.hid g; clear g
  have F0_5 : Hid (w5.cell? ⟨w.heap.size, 0, none⟩ = some (.int .i64 n0)) := Lib.hid (oldM G5.out F0_4.out)
  have F1_5 : Hid (w5.cell? ⟨w.heap.size, 1, none⟩ = some (.int .i64 n1)) := Lib.hid (oldM G5.out F1_4.out)
  have F2_5 : Hid (w5.cell? ⟨w.heap.size, 2, none⟩ = some (.slice A2 xs2.length c2)) := Lib.hid (oldM G5.out F2_4.out)
  have B0_5 : Hid (w5.cell? ⟨w3.heap.size, 0, none⟩ = some (.int .i64 x0)) := Lib.hid (oldM G5.out B0_4.out)
  have B1_5 : Hid (w5.cell? ⟨w3.heap.size, 1, none⟩ = some (.int .i64 x1)) := Lib.hid (oldM G5.out B1_4.out)
  have B2_5 : Hid (w5.cell? ⟨w3.heap.size, 2, none⟩ = some (.string x2)) := Lib.hid (oldM G5.out B2_4.out)
  have HB5 : Hid (Below w.heap.size w w5) := Lib.hid (HB4.out.trans (G5.out.mono HB4.out.size))
  have Vr2_5 : Hid (RiM w5.heap.size w5 (.slice VA2 xs2.length xs2.length) xs2) := Lib.hid r2; clear r2
  have Hi : Hid ((Try.prog.info? 64).map (·.size) = some (#[.int .i64 n0, .int .i64 n1, .slice VA2 xs2.length xs2.length] : Array Value).size) := Lib.hid (by kernel_rfl)
  have H1 : Hid ((#[.int .i64 n0, .int .i64 n1, .slice VA2 xs2.length xs2.length] : Array Value).all (·.oneCell') = true) := Lib.hid (by simp [Value.oneCell'])
  have G6 : Hid (Below w5.heap.size w5 (w5.alloc (.cells #[.int .i64 n0, .int .i64 n1, .slice VA2 xs2.length xs2.length] 64))) := Lib.hid ((Below.refl _ _).alloc (Nat.le_refl _) _)
  have F0_6 : Hid ((w5.alloc (.cells #[.int .i64 n0, .int .i64 n1, .slice VA2 xs2.length xs2.length] 64)).cell? ⟨w.heap.size, 0, none⟩ = some (.int .i64 n0)) := Lib.hid (oldM G6.out F0_5.out)
  have F1_6 : Hid ((w5.alloc (.cells #[.int .i64 n0, .int .i64 n1, .slice VA2 xs2.length xs2.length] 64)).cell? ⟨w.heap.size, 1, none⟩ = some (.int .i64 n1)) := Lib.hid (oldM G6.out F1_5.out)
  have F2_6 : Hid ((w5.alloc (.cells #[.int .i64 n0, .int .i64 n1, .slice VA2 xs2.length xs2.length] 64)).cell? ⟨w.heap.size, 2, none⟩ = some (.slice A2 xs2.length c2)) := Lib.hid (oldM G6.out F2_5.out)
  have B0_6 : Hid ((w5.alloc (.cells #[.int .i64 n0, .int .i64 n1, .slice VA2 xs2.length xs2.length] 64)).cell? ⟨w3.heap.size, 0, none⟩ = some (.int .i64 x0)) := Lib.hid (oldM G6.out B0_5.out)
  have B1_6 : Hid ((w5.alloc (.cells #[.int .i64 n0, .int .i64 n1, .slice VA2 xs2.length xs2.length] 64)).cell? ⟨w3.heap.size, 1, none⟩ = some (.int .i64 x1)) := Lib.hid (oldM G6.out B1_5.out)
  have B2_6 : Hid ((w5.alloc (.cells #[.int .i64 n0, .int .i64 n1, .slice VA2 xs2.length xs2.length] 64)).cell? ⟨w3.heap.size, 2, none⟩ = some (.string x2)) := Lib.hid (oldM G6.out B2_5.out)
  have Vr2_6 : Hid (RiM (w5.alloc (.cells #[.int .i64 n0, .int .i64 n1, .slice VA2 xs2.length xs2.length] 64)).heap.size (w5.alloc (.cells #[.int .i64 n0, .int .i64 n1, .slice VA2 xs2.length xs2.length] 64)) (.slice VA2 xs2.length xs2.length) xs2) := Lib.hid (Vr2_5.out.at (Nat.le_refl _) G6.out)
  have HB6 : Hid (Below w.heap.size w (w5.alloc (.cells #[.int .i64 n0, .int .i64 n1, .slice VA2 xs2.length xs2.length] 64))) := Lib.hid (HB5.out.trans (G6.out.mono HB5.out.size))
  have K0_6 : Hid ((w5.alloc (.cells #[.int .i64 n0, .int .i64 n1, .slice VA2 xs2.length xs2.length] 64)).cell? ⟨w5.heap.size, 0, none⟩ = some (.int .i64 n0)) := Lib.hid (by rw [cell_of_row _ _ _ _ _ _ (heap_alloc_new w5 _)]; rfl)
  have K1_6 : Hid ((w5.alloc (.cells #[.int .i64 n0, .int .i64 n1, .slice VA2 xs2.length xs2.length] 64)).cell? ⟨w5.heap.size, 1, none⟩ = some (.int .i64 n1)) := Lib.hid (by rw [cell_of_row _ _ _ _ _ _ (heap_alloc_new w5 _)]; rfl)
  have K2_6 : Hid ((w5.alloc (.cells #[.int .i64 n0, .int .i64 n1, .slice VA2 xs2.length xs2.length] 64)).cell? ⟨w5.heap.size, 2, none⟩ = some (.slice VA2 xs2.length xs2.length)) := Lib.hid (by rw [cell_of_row _ _ _ _ _ _ (heap_alloc_new w5 _)]; rfl)
  have qF0 := F0_6.out
  have qF1 := F1_6.out
  have qF2 := F2_6.out
  have qB0 := B0_6.out
  have qB1 := B1_6.out
  have qB2 := B2_6.out
  have qK0 := K0_6.out
  have qK1 := K1_6.out
  have qK2 := K2_6.out
  go_wp2_with (refine wpList_store_last rfl 64 (.tmp 8) (.tmp 24) rfl #[.int .i64 n0, .int .i64 n1, .slice VA2 xs2.length xs2.length] _ 64 rfl rfl Hi.out rfl H1.out ?_)
  clear qF0 qF1 qF2 qB0 qB1 qB2 qK0 qK1 qK2
  generalize (w5.alloc (.cells #[.int .i64 n0, .int .i64 n1, .slice VA2 xs2.length xs2.length] 64)) = w6 at *
  refine (P0.out _ _ Vr2_6.out).mono ?_
  rintro e w7 ⟨rfl, g⟩
  have G7 := Lib.hid g; clear g
  have F0_7 : Hid (w7.cell? ⟨w.heap.size, 0, none⟩ = some (.int .i64 n0)) := Lib.hid (oldM G7.out F0_6.out)
  have F1_7 : Hid (w7.cell? ⟨w.heap.size, 1, none⟩ = some (.int .i64 n1)) := Lib.hid (oldM G7.out F1_6.out)
  have F2_7 : Hid (w7.cell? ⟨w.heap.size, 2, none⟩ = some (.slice A2 xs2.length c2)) := Lib.hid (oldM G7.out F2_6.out)
  have B0_7 : Hid (w7.cell? ⟨w3.heap.size, 0, none⟩ = some (.int .i64 x0)) := Lib.hid (oldM G7.out B0_6.out)
  have B1_7 : Hid (w7.cell? ⟨w3.heap.size, 1, none⟩ = some (.int .i64 x1)) := Lib.hid (oldM G7.out B1_6.out)
  have B2_7 : Hid (w7.cell? ⟨w3.heap.size, 2, none⟩ = some (.string x2)) := Lib.hid (oldM G7.out B2_6.out)
  have Vr2_7 : Hid (RiM w7.heap.size w7 (.slice VA2 xs2.length xs2.length) xs2) := Lib.hid (Vr2_6.out.at (Nat.le_refl _) G7.out)
  have K0_7 : Hid (w7.cell? ⟨w5.heap.size, 0, none⟩ = some (.int .i64 n0)) := Lib.hid (oldM G7.out K0_6.out)
  have K1_7 : Hid (w7.cell? ⟨w5.heap.size, 1, none⟩ = some (.int .i64 n1)) := Lib.hid (oldM G7.out K1_6.out)
  have K2_7 : Hid (w7.cell? ⟨w5.heap.size, 2, none⟩ = some (.slice VA2 xs2.length xs2.length)) := Lib.hid (oldM G7.out K2_6.out)
  have HB7 : Hid (Below w.heap.size w w7) := Lib.hid (HB6.out.trans (G7.out.mono HB6.out.size))
  have G8 : Hid (Below w7.heap.size w7 (w7.alloc (.cells #[.int .i64 x0, .int .i64 x1, .string x2] 70))) := Lib.hid ((Below.refl _ _).alloc (Nat.le_refl _) _)
  have F0_8 : Hid ((w7.alloc (.cells #[.int .i64 x0, .int .i64 x1, .string x2] 70)).cell? ⟨w.heap.size, 0, none⟩ = some (.int .i64 n0)) := Lib.hid (oldM G8.out F0_7.out)
  have F1_8 : Hid ((w7.alloc (.cells #[.int .i64 x0, .int .i64 x1, .string x2] 70)).cell? ⟨w.heap.size, 1, none⟩ = some (.int .i64 n1)) := Lib.hid (oldM G8.out F1_7.out)
  have F2_8 : Hid ((w7.alloc (.cells #[.int .i64 x0, .int .i64 x1, .string x2] 70)).cell? ⟨w.heap.size, 2, none⟩ = some (.slice A2 xs2.length c2)) := Lib.hid (oldM G8.out F2_7.out)
  have B0_8 : Hid ((w7.alloc (.cells #[.int .i64 x0, .int .i64 x1, .string x2] 70)).cell? ⟨w3.heap.size, 0, none⟩ = some (.int .i64 x0)) := Lib.hid (oldM G8.out B0_7.out)
  have B1_8 : Hid ((w7.alloc (.cells #[.int .i64 x0, .int .i64 x1, .string x2] 70)).cell? ⟨w3.heap.size, 1, none⟩ = some (.int .i64 x1)) := Lib.hid (oldM G8.out B1_7.out)
  have B2_8 : Hid ((w7.alloc (.cells #[.int .i64 x0, .int .i64 x1, .string x2] 70)).cell? ⟨w3.heap.size, 2, none⟩ = some (.string x2)) := Lib.hid (oldM G8.out B2_7.out)
  have Vr2_8 : Hid (RiM (w7.alloc (.cells #[.int .i64 x0, .int .i64 x1, .string x2] 70)).heap.size (w7.alloc (.cells #[.int .i64 x0, .int .i64 x1, .string x2] 70)) (.slice VA2 xs2.length xs2.length) xs2) := Lib.hid (Vr2_7.out.at (Nat.le_refl _) G8.out)
  have K0_8 : Hid ((w7.alloc (.cells #[.int .i64 x0, .int .i64 x1, .string x2] 70)).cell? ⟨w5.heap.size, 0, none⟩ = some (.int .i64 n0)) := Lib.hid (oldM G8.out K0_7.out)
  have K1_8 : Hid ((w7.alloc (.cells #[.int .i64 x0, .int .i64 x1, .string x2] 70)).cell? ⟨w5.heap.size, 1, none⟩ = some (.int .i64 n1)) := Lib.hid (oldM G8.out K1_7.out)
  have K2_8 : Hid ((w7.alloc (.cells #[.int .i64 x0, .int .i64 x1, .string x2] 70)).cell? ⟨w5.heap.size, 2, none⟩ = some (.slice VA2 xs2.length xs2.length)) := Lib.hid (oldM G8.out K2_7.out)
  have HB8 : Hid (Below w.heap.size w (w7.alloc (.cells #[.int .i64 x0, .int .i64 x1, .string x2] 70))) := Lib.hid (HB7.out.trans (G8.out.mono HB7.out.size))
  have C0_8 : Hid ((w7.alloc (.cells #[.int .i64 x0, .int .i64 x1, .string x2] 70)).cell? ⟨w7.heap.size, 0, none⟩ = some (.int .i64 x0)) := Lib.hid (by rw [cell_of_row _ _ _ _ _ _ (heap_alloc_new w7 _)]; rfl)
  have C1_8 : Hid ((w7.alloc (.cells #[.int .i64 x0, .int .i64 x1, .string x2] 70)).cell? ⟨w7.heap.size, 1, none⟩ = some (.int .i64 x1)) := Lib.hid (by rw [cell_of_row _ _ _ _ _ _ (heap_alloc_new w7 _)]; rfl)
  have C2_8 : Hid ((w7.alloc (.cells #[.int .i64 x0, .int .i64 x1, .string x2] 70)).cell? ⟨w7.heap.size, 2, none⟩ = some (.string x2)) := Lib.hid (by rw [cell_of_row _ _ _ _ _ _ (heap_alloc_new w7 _)]; rfl)
  have qF0 := F0_8.out
  have qF1 := F1_8.out
  have qF2 := F2_8.out
  have qB0 := B0_8.out
  have qB1 := B1_8.out
  have qB2 := B2_8.out
  have qK0 := K0_8.out
  have qK1 := K1_8.out
  have qK2 := K2_8.out
  have qC0 := C0_8.out
  have qC1 := C1_8.out
  have qC2 := C2_8.out
  go_wp2_with fail
  clear qF0 qF1 qF2 qB0 qB1 qB2 qK0 qK1 qK2 qC0 qC1 qC2
  generalize (w7.alloc (.cells #[.int .i64 x0, .int .i64 x1, .string x2] 70)) = w8 at *
  refine (eqMessage_any x0 x1 x2 w8).mono ?_
  rintro e w9 ⟨rfl, g⟩
  have G9 := Lib.hid g; clear g
  have F0_9 : Hid (w9.cell? ⟨w.heap.size, 0, none⟩ = some (.int .i64 n0)) := Lib.hid (oldM G9.out F0_8.out)
  have F1_9 : Hid (w9.cell? ⟨w.heap.size, 1, none⟩ = some (.int .i64 n1)) := Lib.hid (oldM G9.out F1_8.out)
  have F2_9 : Hid (w9.cell? ⟨w.heap.size, 2, none⟩ = some (.slice A2 xs2.length c2)) := Lib.hid (oldM G9.out F2_8.out)
  have B0_9 : Hid (w9.cell? ⟨w3.heap.size, 0, none⟩ = some (.int .i64 x0)) := Lib.hid (oldM G9.out B0_8.out)
  have B1_9 : Hid (w9.cell? ⟨w3.heap.size, 1, none⟩ = some (.int .i64 x1)) := Lib.hid (oldM G9.out B1_8.out)
  have B2_9 : Hid (w9.cell? ⟨w3.heap.size, 2, none⟩ = some (.string x2)) := Lib.hid (oldM G9.out B2_8.out)
  have Vr2_9 : Hid (RiM w9.heap.size w9 (.slice VA2 xs2.length xs2.length) xs2) := Lib.hid (Vr2_8.out.at (Nat.le_refl _) G9.out)
  have K0_9 : Hid (w9.cell? ⟨w5.heap.size, 0, none⟩ = some (.int .i64 n0)) := Lib.hid (oldM G9.out K0_8.out)
  have K1_9 : Hid (w9.cell? ⟨w5.heap.size, 1, none⟩ = some (.int .i64 n1)) := Lib.hid (oldM G9.out K1_8.out)
  have K2_9 : Hid (w9.cell? ⟨w5.heap.size, 2, none⟩ = some (.slice VA2 xs2.length xs2.length)) := Lib.hid (oldM G9.out K2_8.out)
  have C0_9 : Hid (w9.cell? ⟨w7.heap.size, 0, none⟩ = some (.int .i64 x0)) := Lib.hid (oldM G9.out C0_8.out)
  have C1_9 : Hid (w9.cell? ⟨w7.heap.size, 1, none⟩ = some (.int .i64 x1)) := Lib.hid (oldM G9.out C1_8.out)
  have C2_9 : Hid (w9.cell? ⟨w7.heap.size, 2, none⟩ = some (.string x2)) := Lib.hid (oldM G9.out C2_8.out)
  have HB9 : Hid (Below w.heap.size w w9) := Lib.hid (HB8.out.trans (G9.out.mono HB8.out.size))
  have ey : (co == co) = true := by simp
  have HSd : Hid (∀ W, Below w9.heap.size w9 W → W.cell? ⟨w.heap.size, 0, none⟩ = some (.int .i64 n0) ∧ W.cell? ⟨w.heap.size, 1, none⟩ = some (.int .i64 n1) ∧ W.cell? ⟨w.heap.size, 2, none⟩ = some (.slice A2 xs2.length c2) ∧ W.cell? ⟨w5.heap.size, 0, none⟩ = some (.int .i64 n0) ∧ W.cell? ⟨w5.heap.size, 1, none⟩ = some (.int .i64 n1) ∧ W.cell? ⟨w5.heap.size, 2, none⟩ = some (.slice VA2 xs2.length xs2.length)) := Lib.hid (fun W hW => ⟨oldM hW F0_9.out, oldM hW F1_9.out, oldM hW F2_9.out, oldM hW K0_9.out, oldM hW K1_9.out, oldM hW K2_9.out⟩)
  have HDd : Hid (Below w9.heap.size w9 w9.drew) := Lib.hid (Below.refl _ _).drew
  have HEd : Hid (Below w.heap.size w w9.drew) := Lib.hid (HB9.out.trans (HDd.out.mono HB9.out.size))
  have qF0 := F0_9.out
  have qF1 := F1_9.out
  have qF2 := F2_9.out
  have qK0 := K0_9.out
  have qK1 := K1_9.out
  have qK2 := K2_9.out
  go_wp2
  clear qF0 qF1 qF2 qK0 qK1 qK2
  go_region_held3 (fun W => W.cell? ⟨w.heap.size, 0, none⟩ = some (.int .i64 n0) ∧ W.cell? ⟨w.heap.size, 1, none⟩ = some (.int .i64 n1) ∧ W.cell? ⟨w.heap.size, 2, none⟩ = some (.slice A2 xs2.length c2) ∧ W.cell? ⟨w5.heap.size, 0, none⟩ = some (.int .i64 n0) ∧ W.cell? ⟨w5.heap.size, 1, none⟩ = some (.int .i64 n1) ∧ W.cell? ⟨w5.heap.size, 2, none⟩ = some (.slice VA2 xs2.length xs2.length)) (exact HSd.out _ (by first | exact kb | exact ka | exact HDd.out))
    ((first | (go_at_call 40; go_fit (toHeader_rd (H2.out.at (Nat.le_refl _) HEd.out) (Nat.le_refl _) SM.out); rintro e ua ⟨NA2, rfl, r2, ga⟩; have N2 := Lib.hid r2; clear r2; have ka : Below w9.heap.size w9 ua := HDd.out.trans ga; clear ga) | (go_at_call 42; go_fit (eqHeader_any (Vr2_9.out.at (Nat.le_refl _) ka) N2.out (Nat.le_refl _)); rintro e w10 ⟨rfl, gb⟩; have kb : Below w9.heap.size w9 w10 := ka.trans (gb.mono ka.size); clear gb)))
  try simp only [Exit.then]
  have G10 := Lib.hid kb; clear kb ka
  have F0_10 : Hid (w10.cell? ⟨w.heap.size, 0, none⟩ = some (.int .i64 n0)) := Lib.hid (oldM G10.out F0_9.out)
  have F1_10 : Hid (w10.cell? ⟨w.heap.size, 1, none⟩ = some (.int .i64 n1)) := Lib.hid (oldM G10.out F1_9.out)
  have F2_10 : Hid (w10.cell? ⟨w.heap.size, 2, none⟩ = some (.slice A2 xs2.length c2)) := Lib.hid (oldM G10.out F2_9.out)
  have Vr2_10 : Hid (RiM w10.heap.size w10 (.slice VA2 xs2.length xs2.length) xs2) := Lib.hid (Vr2_9.out.at (Nat.le_refl _) G10.out)
  have K0_10 : Hid (w10.cell? ⟨w5.heap.size, 0, none⟩ = some (.int .i64 n0)) := Lib.hid (oldM G10.out K0_9.out)
  have K1_10 : Hid (w10.cell? ⟨w5.heap.size, 1, none⟩ = some (.int .i64 n1)) := Lib.hid (oldM G10.out K1_9.out)
  have K2_10 : Hid (w10.cell? ⟨w5.heap.size, 2, none⟩ = some (.slice VA2 xs2.length xs2.length)) := Lib.hid (oldM G10.out K2_9.out)
  have HB10 : Hid (Below w.heap.size w w10) := Lib.hid (HB9.out.trans (G10.out.mono HB9.out.size))
  have qF0 := F0_10.out
  have qF1 := F1_10.out
  have qF2 := F2_10.out
  have qK0 := K0_10.out
  have qK1 := K1_10.out
  have qK2 := K2_10.out
  go_wp2_with fail
  clear qF0 qF1 qF2 qK0 qK1 qK2
  go_ret
  exact ⟨rfl, HB10.out⟩
theorem own : ownKnob Try.prog.godebug = none := by kernel_rfl
theorem laidOut : laidOutB Try.prog = true := by kernel_rfl
set_option maxRecDepth 100000 in
theorem lifted (os : Os) (started : os.Started) (H : Type) (enc : TypeId × Value → H) :
    ReturnsInHanded {} Try.checked os 11 .any (Rows.fnExactMessageOfSpec.pre6 enc Try.prog Try.f11 Rows.fnExactMessageOfRow.domain false) (Rows.fnExactMessageOfSpec.post enc Try.prog Try.f11 false true false false) := by
  refine returnsInHanded_of_change (C := Try.checked) own started (by kernel_rfl) Try.func11
    (ChangeSpec.witness6 (enc := enc) (C := Try.checked) false ⟨#[], #[.agg #[.int .i64 0, .int .i64 0, .slice none 0 0], .int .i64 0], []⟩ 8 (by kernel_rfl) (by kernel_rfl) (by kernel_rfl) (by kernel_rfl)) ?_
  intro W base args ds gs before hval0 hW hcnd _
  have hval : ∀ (j : Nat) t v, Try.f11.params[j]? = some t → args[j]? = some v → Value.okWide Try.prog W .any base t v := hval0
  have hW' := hW
  obtain ⟨p, q, hA0, hV, rfl, hfz, hnd⟩ := hW
  have hA : DataW.TrodAll enc Try.prog W 0 (fun _ => true) true Try.f11.params.toList args.toList ds p := hA0
  rw [Try.params11] at hA hval
  obtain ⟨v0, vs0, d0, ds0, p0, q0, hargs, rfl, rfl, h0, r0⟩ := trodAll_cons hA
  obtain ⟨v1, vs1, d1, ds1, p1, q1, rfl, rfl, rfl, h1, r1⟩ := trodAll_cons r0
  obtain ⟨rfl, rfl, rfl⟩ := trodAll_nil r1
  obtain rfl : args = #[v0, v1] := by cases args; simp_all
  obtain ⟨rfl, rfl⟩ := trodVars_none hV
  have k0 := h0
  have lt0 : ∀ x ∈ p0, x.block < W.heap.size := by obtain ⟨m, hm⟩ := k0; exact DataW.trod_lt m _ _ _ hm
  obtain ⟨n0_0, n0_1, v0_2, xs0_2, rfl, g0_0, g0_1, g0_2⟩ := open_header (hval 0 59 v0 rfl rfl) h0
  obtain ⟨a1, rfl, rfl, rfl, g1⟩ := open_int Try.underlying2 (hval 1 2 v1 rfl rfl) h1
  clear hA0 hval0
  refine (walk W _ _ _ _ _ g0_0 g0_1 g0_2 g1).mono fun e W' ⟨he, bel⟩ => ?_
  subst he
  exact ⟨_, rfl, _, _, _, [], _, [], hW', (trodAll_cons_mk (shut_bool Try.underlying4 _) trodAll_mk0), (trodAll_cons_mk (Below.trod laidOut (by kernel_rfl) (of_decide_eq_true (by kernel_rfl)) k0 bel lt0) (trodAll_cons_mk (shut_int Try.underlying2 g1) trodAll_mk0)), rfl, bel.frame _, fun h => by cases h⟩
theorem closed : joinedFacts Try.pinned.checked.prog 11 Try.f11 Rows.fnExactMessageOfSpec Rows.fnExactMessageOfRow = true := by
  unfold joinedFacts
  rw [mayE, lifF, mkP]
  kernel_rfl
theorem over : Rows.fnExactMessageOfRow.holds Try.pinned (OpenSpec.ofChange Rows.fnExactMessageOfSpec) :=
  OpenClaim.holds_of_wide 11 Try.f11 rfl rfl rfl rfl rfl rfl rfl ⟨rfl, rfl, rfl, rfl, rfl⟩ rfl rfl rfl rfl rfl (by kernel_rfl) Try.func11 closed
    (of_decide_eq_true (by kernel_rfl)) (by unfold Func.isWrapper; rw [if_neg (of_decide_eq_false (by kernel_rfl))]; exact ⟨rfl, rfl⟩)
    (fun os started H enc _ => lifted os started H enc)
theorem proved : Rows.FnExactMessageOfSaid := over
end Go.Proofs.Ytlickjmdlooapaa.fnExactMessageOf
