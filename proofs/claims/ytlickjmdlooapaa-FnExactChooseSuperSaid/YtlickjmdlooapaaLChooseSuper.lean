/- The statement of the law FnExactChooseSuper: whatever the input, the program's function answers as the model's, and the input reads as it did. Its conditions are the given statement's own; nothing is added. -/
import Derived.Test.YtlickjmdlooapaaJf
import Derived.Test.YtlickjmdlooapaaChI
import Derived.Test.YtlickjmdlooapaaFrmD
import Derived.Test.YtlickjmdlooapaaDsk2
import Derived.Test.YtlickjmdlooapaaDkF
import Derived.Test.YtlickjmdlooapaaSupE
import Derived.ProofKit
import Derived.OpenShut
import Derived.ShutString
import Derived.ChangeOld
import Derived.Below
import Derived.Deep.DeepFit
import Derived.Deep.WholeRow
import Derived.Deep.RegionHeld3
namespace Go.Proofs.Ytlickjmdlooapaa.fnExactChooseSuper
open Go.ChangeShapes Go.WideShapes Go.ChangeAt Go.RowKit
open Go.ChangeMaps (open_string shut_string)
set_option linter.unusedVariables false
theorem oldM {w1 u : World} {p : Addr} {v : Value} (g : Below w1.heap.size w1 u) (h : w1.cell? p = some v) : u.cell? p = some v := (g.cell (World.block_lt_of_cell? w1 p h)).trans h
set_option maxHeartbeats 8000000 in
set_option maxRecDepth 100000 in
theorem walk (w : World) (v0_0 : Value) (xs0_0 : List ByteArray) (v0_1 : Value) (xs0_1 : List Pt) (n0_2 : Int) (n0_3 : Bool) (h0_0 : RiT w.heap.size w v0_0 xs0_0) (h0_1 : RiU w.heap.size w v0_1 xs0_1) (h0_2 : InI n0_2) :
    Calls Try.prog 15 #[.agg #[v0_0, v0_1, .int .i64 n0_2, .bool n0_3]] w (GivesB (.bool true) w) := by
  have H0_0 := Lib.hid h0_0; obtain ⟨A0_0, c0_0, rfl, _⟩ := h0_0
  have H0_1 := Lib.hid h0_1; obtain ⟨A0_1, c0_1, rfl, _⟩ := h0_1
  clear h0_2
  have S0 := Lib.hid (fun (W : World) (X0 X1 : Option Addr) (g0 : RiT W.heap.size W (.slice X0 xs0_0.length xs0_0.length) xs0_0) (g1 : RiU W.heap.size W (.slice X1 xs0_1.length xs0_1.length) xs0_1) => specChooseSuper_any (fz := n0_2) (off := n0_3) g0 g1 (Nat.le_refl _))
  have P0 := Lib.hid (fun (W : World) (X0 X1 : Option Addr) (g0 : RiT W.heap.size W (.slice X0 xs0_0.length xs0_0.length) xs0_0) (g1 : RiU W.heap.size W (.slice X1 xs0_1.length xs0_1.length) xs0_1) => implChooseSuper_any (fz := n0_2) (off := n0_3) g0 g1 (Nat.le_refl _))
  obtain ⟨x0, x1, x2, x3, hA⟩ : ∃ x0 x1 x2 x3 : Int, csA xs0_0 xs0_1 n0_2 = #[.int .i64 x0, .int .i64 x1, .int .i64 x2, .int .i64 x3] := by
    unfold csA chA slA
    repeat' split
    all_goals exact ⟨_, _, _, _, rfl⟩
  rw [hA] at S0 P0
  clear hA
  obtain ⟨co, hco⟩ : ∃ co, co = csC xs0_0 xs0_1 n0_2 := ⟨_, rfl⟩
  rw [← hco] at S0 P0
  clear hco
  have HB0 : Hid (Below w.heap.size w (w.alloc (.cells #[.slice A0_0 xs0_0.length c0_0, .slice A0_1 xs0_1.length c0_1, .int .i64 n0_2, .bool n0_3] 27))) := Lib.hid ((Below.refl _ _).alloc (Nat.le_refl _) _)
  have F0_0 : Hid ((w.alloc (.cells #[.slice A0_0 xs0_0.length c0_0, .slice A0_1 xs0_1.length c0_1, .int .i64 n0_2, .bool n0_3] 27)).cell? ⟨w.heap.size, 0, none⟩ = some (.slice A0_0 xs0_0.length c0_0)) := Lib.hid (by rw [cell_of_row _ _ _ _ _ _ (heap_alloc_new w _)]; rfl)
  have F1_0 : Hid ((w.alloc (.cells #[.slice A0_0 xs0_0.length c0_0, .slice A0_1 xs0_1.length c0_1, .int .i64 n0_2, .bool n0_3] 27)).cell? ⟨w.heap.size, 1, none⟩ = some (.slice A0_1 xs0_1.length c0_1)) := Lib.hid (by rw [cell_of_row _ _ _ _ _ _ (heap_alloc_new w _)]; rfl)
  have F2_0 : Hid ((w.alloc (.cells #[.slice A0_0 xs0_0.length c0_0, .slice A0_1 xs0_1.length c0_1, .int .i64 n0_2, .bool n0_3] 27)).cell? ⟨w.heap.size, 2, none⟩ = some (.int .i64 n0_2)) := Lib.hid (by rw [cell_of_row _ _ _ _ _ _ (heap_alloc_new w _)]; rfl)
  have F3_0 : Hid ((w.alloc (.cells #[.slice A0_0 xs0_0.length c0_0, .slice A0_1 xs0_1.length c0_1, .int .i64 n0_2, .bool n0_3] 27)).cell? ⟨w.heap.size, 3, none⟩ = some (.bool n0_3)) := Lib.hid (by rw [cell_of_row _ _ _ _ _ _ (heap_alloc_new w _)]; rfl)
  go_enter Try.func15, Try.ntmps15
  go_wp2_with fail
  generalize (w.alloc (.cells #[.slice A0_0 xs0_0.length c0_0, .slice A0_1 xs0_1.length c0_1, .int .i64 n0_2, .bool n0_3] 27)) = w0 at *
  refine (szDisk_any (H0_0.out.at (Nat.le_refl _) HB0.out) (H0_1.out.at (Nat.le_refl _) HB0.out) (Nat.le_refl _) (1048576) (by omega) (by omega)).mono ?_
  rintro e w1 ⟨l0, rfl, hl0, hL0, hp0, g⟩
  have Pz := Lib.hid hp0; have G1 := Lib.hid g; clear hp0 g
  have F0_1 : Hid (w1.cell? ⟨w.heap.size, 0, none⟩ = some (.slice A0_0 xs0_0.length c0_0)) := Lib.hid (oldM G1.out F0_0.out)
  have F1_1 : Hid (w1.cell? ⟨w.heap.size, 1, none⟩ = some (.slice A0_1 xs0_1.length c0_1)) := Lib.hid (oldM G1.out F1_0.out)
  have F2_1 : Hid (w1.cell? ⟨w.heap.size, 2, none⟩ = some (.int .i64 n0_2)) := Lib.hid (oldM G1.out F2_0.out)
  have F3_1 : Hid (w1.cell? ⟨w.heap.size, 3, none⟩ = some (.bool n0_3)) := Lib.hid (oldM G1.out F3_0.out)
  have HB1 : Hid (Below w.heap.size w w1) := Lib.hid (HB0.out.trans (G1.out.mono HB0.out.size))
  by_cases neg0 : l0 < 0
  · skip
    have qF0 := F0_1.out
    have qF1 := F1_1.out
    have qF2 := F2_1.out
    have qF3 := F3_1.out
    go_wp2_with fail
    go_ret
    exact ⟨rfl, HB1.out⟩
  have SM := Lib.hid (Pz.out (by omega))
  have qF0 := F0_1.out
  have qF1 := F1_1.out
  have qF2 := F2_1.out
  have qF3 := F3_1.out
  go_wp2_with fail
  clear qF0 qF1 qF2 qF3
  refine (toDisk_rd (H0_0.out.at (Nat.le_refl _) HB1.out) (H0_1.out.at (Nat.le_refl _) HB1.out) (Nat.le_refl _) SM.out).mono ?_
  rintro e w2 ⟨TA0, TA1, rfl, r0, r1, g⟩
  have G2 := Lib.hid g; clear g
  have F0_2 : Hid (w2.cell? ⟨w.heap.size, 0, none⟩ = some (.slice A0_0 xs0_0.length c0_0)) := Lib.hid (oldM G2.out F0_1.out)
  have F1_2 : Hid (w2.cell? ⟨w.heap.size, 1, none⟩ = some (.slice A0_1 xs0_1.length c0_1)) := Lib.hid (oldM G2.out F1_1.out)
  have F2_2 : Hid (w2.cell? ⟨w.heap.size, 2, none⟩ = some (.int .i64 n0_2)) := Lib.hid (oldM G2.out F2_1.out)
  have F3_2 : Hid (w2.cell? ⟨w.heap.size, 3, none⟩ = some (.bool n0_3)) := Lib.hid (oldM G2.out F3_1.out)
  have HB2 : Hid (Below w.heap.size w w2) := Lib.hid (HB1.out.trans (G2.out.mono HB1.out.size))
  have Tr0_2 : Hid (RiT w2.heap.size w2 (.slice TA0 xs0_0.length xs0_0.length) xs0_0) := Lib.hid r0; clear r0
  have Tr1_2 : Hid (RiU w2.heap.size w2 (.slice TA1 xs0_1.length xs0_1.length) xs0_1) := Lib.hid r1; clear r1
  have qF0 := F0_2.out
  have qF1 := F1_2.out
  have qF2 := F2_2.out
  have qF3 := F3_2.out
  go_wp2_with fail
  clear qF0 qF1 qF2 qF3
  refine (S0.out _ _ _ Tr0_2.out Tr1_2.out).mono ?_
  rintro e w3 ⟨rfl, g⟩
  have G3 := Lib.hid g; clear g
  have F0_3 : Hid (w3.cell? ⟨w.heap.size, 0, none⟩ = some (.slice A0_0 xs0_0.length c0_0)) := Lib.hid (oldM G3.out F0_2.out)
  have F1_3 : Hid (w3.cell? ⟨w.heap.size, 1, none⟩ = some (.slice A0_1 xs0_1.length c0_1)) := Lib.hid (oldM G3.out F1_2.out)
  have F2_3 : Hid (w3.cell? ⟨w.heap.size, 2, none⟩ = some (.int .i64 n0_2)) := Lib.hid (oldM G3.out F2_2.out)
  have F3_3 : Hid (w3.cell? ⟨w.heap.size, 3, none⟩ = some (.bool n0_3)) := Lib.hid (oldM G3.out F3_2.out)
  have Tr0_3 : Hid (RiT w3.heap.size w3 (.slice TA0 xs0_0.length xs0_0.length) xs0_0) := Lib.hid (Tr0_2.out.at (Nat.le_refl _) G3.out)
  have Tr1_3 : Hid (RiU w3.heap.size w3 (.slice TA1 xs0_1.length xs0_1.length) xs0_1) := Lib.hid (Tr1_2.out.at (Nat.le_refl _) G3.out)
  have HB3 : Hid (Below w.heap.size w w3) := Lib.hid (HB2.out.trans (G3.out.mono HB2.out.size))
  have G4 : Hid (Below w3.heap.size w3 (w3.alloc (.cells #[.int .i64 x0, .int .i64 x1, .int .i64 x2, .int .i64 x3] 39))) := Lib.hid ((Below.refl _ _).alloc (Nat.le_refl _) _)
  have F0_4 : Hid ((w3.alloc (.cells #[.int .i64 x0, .int .i64 x1, .int .i64 x2, .int .i64 x3] 39)).cell? ⟨w.heap.size, 0, none⟩ = some (.slice A0_0 xs0_0.length c0_0)) := Lib.hid (oldM G4.out F0_3.out)
  have F1_4 : Hid ((w3.alloc (.cells #[.int .i64 x0, .int .i64 x1, .int .i64 x2, .int .i64 x3] 39)).cell? ⟨w.heap.size, 1, none⟩ = some (.slice A0_1 xs0_1.length c0_1)) := Lib.hid (oldM G4.out F1_3.out)
  have F2_4 : Hid ((w3.alloc (.cells #[.int .i64 x0, .int .i64 x1, .int .i64 x2, .int .i64 x3] 39)).cell? ⟨w.heap.size, 2, none⟩ = some (.int .i64 n0_2)) := Lib.hid (oldM G4.out F2_3.out)
  have F3_4 : Hid ((w3.alloc (.cells #[.int .i64 x0, .int .i64 x1, .int .i64 x2, .int .i64 x3] 39)).cell? ⟨w.heap.size, 3, none⟩ = some (.bool n0_3)) := Lib.hid (oldM G4.out F3_3.out)
  have HB4 : Hid (Below w.heap.size w (w3.alloc (.cells #[.int .i64 x0, .int .i64 x1, .int .i64 x2, .int .i64 x3] 39))) := Lib.hid (HB3.out.trans (G4.out.mono HB3.out.size))
  have B0_4 : Hid ((w3.alloc (.cells #[.int .i64 x0, .int .i64 x1, .int .i64 x2, .int .i64 x3] 39)).cell? ⟨w3.heap.size, 0, none⟩ = some (.int .i64 x0)) := Lib.hid (by rw [cell_of_row _ _ _ _ _ _ (heap_alloc_new w3 _)]; rfl)
  have B1_4 : Hid ((w3.alloc (.cells #[.int .i64 x0, .int .i64 x1, .int .i64 x2, .int .i64 x3] 39)).cell? ⟨w3.heap.size, 1, none⟩ = some (.int .i64 x1)) := Lib.hid (by rw [cell_of_row _ _ _ _ _ _ (heap_alloc_new w3 _)]; rfl)
  have B2_4 : Hid ((w3.alloc (.cells #[.int .i64 x0, .int .i64 x1, .int .i64 x2, .int .i64 x3] 39)).cell? ⟨w3.heap.size, 2, none⟩ = some (.int .i64 x2)) := Lib.hid (by rw [cell_of_row _ _ _ _ _ _ (heap_alloc_new w3 _)]; rfl)
  have B3_4 : Hid ((w3.alloc (.cells #[.int .i64 x0, .int .i64 x1, .int .i64 x2, .int .i64 x3] 39)).cell? ⟨w3.heap.size, 3, none⟩ = some (.int .i64 x3)) := Lib.hid (by rw [cell_of_row _ _ _ _ _ _ (heap_alloc_new w3 _)]; rfl)
  have qF0 := F0_4.out
  have qF1 := F1_4.out
  have qF2 := F2_4.out
  have qF3 := F3_4.out
  have qB0 := B0_4.out
  have qB1 := B1_4.out
  have qB2 := B2_4.out
  have qB3 := B3_4.out
  go_wp2_with fail
  clear qF0 qF1 qF2 qF3 qB0 qB1 qB2 qB3
  generalize (w3.alloc (.cells #[.int .i64 x0, .int .i64 x1, .int .i64 x2, .int .i64 x3] 39)) = w4 at *
  refine (toDisk_rd (H0_0.out.at (Nat.le_refl _) HB4.out) (H0_1.out.at (Nat.le_refl _) HB4.out) (Nat.le_refl _) SM.out).mono ?_
  rintro e w5 ⟨VA0, VA1, rfl, r0, r1, g⟩
  have G5 := Lib.hid g; clear g
  have F0_5 : Hid (w5.cell? ⟨w.heap.size, 0, none⟩ = some (.slice A0_0 xs0_0.length c0_0)) := Lib.hid (oldM G5.out F0_4.out)
  have F1_5 : Hid (w5.cell? ⟨w.heap.size, 1, none⟩ = some (.slice A0_1 xs0_1.length c0_1)) := Lib.hid (oldM G5.out F1_4.out)
  have F2_5 : Hid (w5.cell? ⟨w.heap.size, 2, none⟩ = some (.int .i64 n0_2)) := Lib.hid (oldM G5.out F2_4.out)
  have F3_5 : Hid (w5.cell? ⟨w.heap.size, 3, none⟩ = some (.bool n0_3)) := Lib.hid (oldM G5.out F3_4.out)
  have B0_5 : Hid (w5.cell? ⟨w3.heap.size, 0, none⟩ = some (.int .i64 x0)) := Lib.hid (oldM G5.out B0_4.out)
  have B1_5 : Hid (w5.cell? ⟨w3.heap.size, 1, none⟩ = some (.int .i64 x1)) := Lib.hid (oldM G5.out B1_4.out)
  have B2_5 : Hid (w5.cell? ⟨w3.heap.size, 2, none⟩ = some (.int .i64 x2)) := Lib.hid (oldM G5.out B2_4.out)
  have B3_5 : Hid (w5.cell? ⟨w3.heap.size, 3, none⟩ = some (.int .i64 x3)) := Lib.hid (oldM G5.out B3_4.out)
  have HB5 : Hid (Below w.heap.size w w5) := Lib.hid (HB4.out.trans (G5.out.mono HB4.out.size))
  have Vr0_5 : Hid (RiT w5.heap.size w5 (.slice VA0 xs0_0.length xs0_0.length) xs0_0) := Lib.hid r0; clear r0
  have Vr1_5 : Hid (RiU w5.heap.size w5 (.slice VA1 xs0_1.length xs0_1.length) xs0_1) := Lib.hid r1; clear r1
  have Hi : Hid ((Try.prog.info? 38).map (·.size) = some (#[.slice VA0 xs0_0.length xs0_0.length, .slice VA1 xs0_1.length xs0_1.length, .int .i64 n0_2, .bool n0_3] : Array Value).size) := Lib.hid (by kernel_rfl)
  have H1 : Hid ((#[.slice VA0 xs0_0.length xs0_0.length, .slice VA1 xs0_1.length xs0_1.length, .int .i64 n0_2, .bool n0_3] : Array Value).all (·.oneCell') = true) := Lib.hid (by simp [Value.oneCell'])
  have G6 : Hid (Below w5.heap.size w5 (w5.alloc (.cells #[.slice VA0 xs0_0.length xs0_0.length, .slice VA1 xs0_1.length xs0_1.length, .int .i64 n0_2, .bool n0_3] 38))) := Lib.hid ((Below.refl _ _).alloc (Nat.le_refl _) _)
  have F0_6 : Hid ((w5.alloc (.cells #[.slice VA0 xs0_0.length xs0_0.length, .slice VA1 xs0_1.length xs0_1.length, .int .i64 n0_2, .bool n0_3] 38)).cell? ⟨w.heap.size, 0, none⟩ = some (.slice A0_0 xs0_0.length c0_0)) := Lib.hid (oldM G6.out F0_5.out)
  have F1_6 : Hid ((w5.alloc (.cells #[.slice VA0 xs0_0.length xs0_0.length, .slice VA1 xs0_1.length xs0_1.length, .int .i64 n0_2, .bool n0_3] 38)).cell? ⟨w.heap.size, 1, none⟩ = some (.slice A0_1 xs0_1.length c0_1)) := Lib.hid (oldM G6.out F1_5.out)
  have F2_6 : Hid ((w5.alloc (.cells #[.slice VA0 xs0_0.length xs0_0.length, .slice VA1 xs0_1.length xs0_1.length, .int .i64 n0_2, .bool n0_3] 38)).cell? ⟨w.heap.size, 2, none⟩ = some (.int .i64 n0_2)) := Lib.hid (oldM G6.out F2_5.out)
  have F3_6 : Hid ((w5.alloc (.cells #[.slice VA0 xs0_0.length xs0_0.length, .slice VA1 xs0_1.length xs0_1.length, .int .i64 n0_2, .bool n0_3] 38)).cell? ⟨w.heap.size, 3, none⟩ = some (.bool n0_3)) := Lib.hid (oldM G6.out F3_5.out)
  have B0_6 : Hid ((w5.alloc (.cells #[.slice VA0 xs0_0.length xs0_0.length, .slice VA1 xs0_1.length xs0_1.length, .int .i64 n0_2, .bool n0_3] 38)).cell? ⟨w3.heap.size, 0, none⟩ = some (.int .i64 x0)) := Lib.hid (oldM G6.out B0_5.out)
  have B1_6 : Hid ((w5.alloc (.cells #[.slice VA0 xs0_0.length xs0_0.length, .slice VA1 xs0_1.length xs0_1.length, .int .i64 n0_2, .bool n0_3] 38)).cell? ⟨w3.heap.size, 1, none⟩ = some (.int .i64 x1)) := Lib.hid (oldM G6.out B1_5.out)
  have B2_6 : Hid ((w5.alloc (.cells #[.slice VA0 xs0_0.length xs0_0.length, .slice VA1 xs0_1.length xs0_1.length, .int .i64 n0_2, .bool n0_3] 38)).cell? ⟨w3.heap.size, 2, none⟩ = some (.int .i64 x2)) := Lib.hid (oldM G6.out B2_5.out)
  have B3_6 : Hid ((w5.alloc (.cells #[.slice VA0 xs0_0.length xs0_0.length, .slice VA1 xs0_1.length xs0_1.length, .int .i64 n0_2, .bool n0_3] 38)).cell? ⟨w3.heap.size, 3, none⟩ = some (.int .i64 x3)) := Lib.hid (oldM G6.out B3_5.out)
  have Vr0_6 : Hid (RiT (w5.alloc (.cells #[.slice VA0 xs0_0.length xs0_0.length, .slice VA1 xs0_1.length xs0_1.length, .int .i64 n0_2, .bool n0_3] 38)).heap.size (w5.alloc (.cells #[.slice VA0 xs0_0.length xs0_0.length, .slice VA1 xs0_1.length xs0_1.length, .int .i64 n0_2, .bool n0_3] 38)) (.slice VA0 xs0_0.length xs0_0.length) xs0_0) := Lib.hid (Vr0_5.out.at (Nat.le_refl _) G6.out)
  have Vr1_6 : Hid (RiU (w5.alloc (.cells #[.slice VA0 xs0_0.length xs0_0.length, .slice VA1 xs0_1.length xs0_1.length, .int .i64 n0_2, .bool n0_3] 38)).heap.size (w5.alloc (.cells #[.slice VA0 xs0_0.length xs0_0.length, .slice VA1 xs0_1.length xs0_1.length, .int .i64 n0_2, .bool n0_3] 38)) (.slice VA1 xs0_1.length xs0_1.length) xs0_1) := Lib.hid (Vr1_5.out.at (Nat.le_refl _) G6.out)
  have HB6 : Hid (Below w.heap.size w (w5.alloc (.cells #[.slice VA0 xs0_0.length xs0_0.length, .slice VA1 xs0_1.length xs0_1.length, .int .i64 n0_2, .bool n0_3] 38))) := Lib.hid (HB5.out.trans (G6.out.mono HB5.out.size))
  have K0_6 : Hid ((w5.alloc (.cells #[.slice VA0 xs0_0.length xs0_0.length, .slice VA1 xs0_1.length xs0_1.length, .int .i64 n0_2, .bool n0_3] 38)).cell? ⟨w5.heap.size, 0, none⟩ = some (.slice VA0 xs0_0.length xs0_0.length)) := Lib.hid (by rw [cell_of_row _ _ _ _ _ _ (heap_alloc_new w5 _)]; rfl)
  have K1_6 : Hid ((w5.alloc (.cells #[.slice VA0 xs0_0.length xs0_0.length, .slice VA1 xs0_1.length xs0_1.length, .int .i64 n0_2, .bool n0_3] 38)).cell? ⟨w5.heap.size, 1, none⟩ = some (.slice VA1 xs0_1.length xs0_1.length)) := Lib.hid (by rw [cell_of_row _ _ _ _ _ _ (heap_alloc_new w5 _)]; rfl)
  have K2_6 : Hid ((w5.alloc (.cells #[.slice VA0 xs0_0.length xs0_0.length, .slice VA1 xs0_1.length xs0_1.length, .int .i64 n0_2, .bool n0_3] 38)).cell? ⟨w5.heap.size, 2, none⟩ = some (.int .i64 n0_2)) := Lib.hid (by rw [cell_of_row _ _ _ _ _ _ (heap_alloc_new w5 _)]; rfl)
  have K3_6 : Hid ((w5.alloc (.cells #[.slice VA0 xs0_0.length xs0_0.length, .slice VA1 xs0_1.length xs0_1.length, .int .i64 n0_2, .bool n0_3] 38)).cell? ⟨w5.heap.size, 3, none⟩ = some (.bool n0_3)) := Lib.hid (by rw [cell_of_row _ _ _ _ _ _ (heap_alloc_new w5 _)]; rfl)
  have qF0 := F0_6.out
  have qF1 := F1_6.out
  have qF2 := F2_6.out
  have qF3 := F3_6.out
  have qB0 := B0_6.out
  have qB1 := B1_6.out
  have qB2 := B2_6.out
  have qB3 := B3_6.out
  have qK0 := K0_6.out
  have qK1 := K1_6.out
  have qK2 := K2_6.out
  have qK3 := K3_6.out
  go_wp2_with (refine wpList_store_last rfl 38 (.tmp 6) (.tmp 21) rfl #[.slice VA0 xs0_0.length xs0_0.length, .slice VA1 xs0_1.length xs0_1.length, .int .i64 n0_2, .bool n0_3] _ 38 rfl rfl Hi.out rfl H1.out ?_)
  clear qF0 qF1 qF2 qF3 qB0 qB1 qB2 qB3 qK0 qK1 qK2 qK3
  generalize (w5.alloc (.cells #[.slice VA0 xs0_0.length xs0_0.length, .slice VA1 xs0_1.length xs0_1.length, .int .i64 n0_2, .bool n0_3] 38)) = w6 at *
  refine (P0.out _ _ _ Vr0_6.out Vr1_6.out).mono ?_
  rintro e w7 ⟨rfl, g⟩
  have G7 := Lib.hid g; clear g
  have F0_7 : Hid (w7.cell? ⟨w.heap.size, 0, none⟩ = some (.slice A0_0 xs0_0.length c0_0)) := Lib.hid (oldM G7.out F0_6.out)
  have F1_7 : Hid (w7.cell? ⟨w.heap.size, 1, none⟩ = some (.slice A0_1 xs0_1.length c0_1)) := Lib.hid (oldM G7.out F1_6.out)
  have F2_7 : Hid (w7.cell? ⟨w.heap.size, 2, none⟩ = some (.int .i64 n0_2)) := Lib.hid (oldM G7.out F2_6.out)
  have F3_7 : Hid (w7.cell? ⟨w.heap.size, 3, none⟩ = some (.bool n0_3)) := Lib.hid (oldM G7.out F3_6.out)
  have B0_7 : Hid (w7.cell? ⟨w3.heap.size, 0, none⟩ = some (.int .i64 x0)) := Lib.hid (oldM G7.out B0_6.out)
  have B1_7 : Hid (w7.cell? ⟨w3.heap.size, 1, none⟩ = some (.int .i64 x1)) := Lib.hid (oldM G7.out B1_6.out)
  have B2_7 : Hid (w7.cell? ⟨w3.heap.size, 2, none⟩ = some (.int .i64 x2)) := Lib.hid (oldM G7.out B2_6.out)
  have B3_7 : Hid (w7.cell? ⟨w3.heap.size, 3, none⟩ = some (.int .i64 x3)) := Lib.hid (oldM G7.out B3_6.out)
  have Vr0_7 : Hid (RiT w7.heap.size w7 (.slice VA0 xs0_0.length xs0_0.length) xs0_0) := Lib.hid (Vr0_6.out.at (Nat.le_refl _) G7.out)
  have Vr1_7 : Hid (RiU w7.heap.size w7 (.slice VA1 xs0_1.length xs0_1.length) xs0_1) := Lib.hid (Vr1_6.out.at (Nat.le_refl _) G7.out)
  have K0_7 : Hid (w7.cell? ⟨w5.heap.size, 0, none⟩ = some (.slice VA0 xs0_0.length xs0_0.length)) := Lib.hid (oldM G7.out K0_6.out)
  have K1_7 : Hid (w7.cell? ⟨w5.heap.size, 1, none⟩ = some (.slice VA1 xs0_1.length xs0_1.length)) := Lib.hid (oldM G7.out K1_6.out)
  have K2_7 : Hid (w7.cell? ⟨w5.heap.size, 2, none⟩ = some (.int .i64 n0_2)) := Lib.hid (oldM G7.out K2_6.out)
  have K3_7 : Hid (w7.cell? ⟨w5.heap.size, 3, none⟩ = some (.bool n0_3)) := Lib.hid (oldM G7.out K3_6.out)
  have HB7 : Hid (Below w.heap.size w w7) := Lib.hid (HB6.out.trans (G7.out.mono HB6.out.size))
  have G8 : Hid (Below w7.heap.size w7 (w7.alloc (.cells #[.int .i64 x0, .int .i64 x1, .int .i64 x2, .int .i64 x3] 39))) := Lib.hid ((Below.refl _ _).alloc (Nat.le_refl _) _)
  have F0_8 : Hid ((w7.alloc (.cells #[.int .i64 x0, .int .i64 x1, .int .i64 x2, .int .i64 x3] 39)).cell? ⟨w.heap.size, 0, none⟩ = some (.slice A0_0 xs0_0.length c0_0)) := Lib.hid (oldM G8.out F0_7.out)
  have F1_8 : Hid ((w7.alloc (.cells #[.int .i64 x0, .int .i64 x1, .int .i64 x2, .int .i64 x3] 39)).cell? ⟨w.heap.size, 1, none⟩ = some (.slice A0_1 xs0_1.length c0_1)) := Lib.hid (oldM G8.out F1_7.out)
  have F2_8 : Hid ((w7.alloc (.cells #[.int .i64 x0, .int .i64 x1, .int .i64 x2, .int .i64 x3] 39)).cell? ⟨w.heap.size, 2, none⟩ = some (.int .i64 n0_2)) := Lib.hid (oldM G8.out F2_7.out)
  have F3_8 : Hid ((w7.alloc (.cells #[.int .i64 x0, .int .i64 x1, .int .i64 x2, .int .i64 x3] 39)).cell? ⟨w.heap.size, 3, none⟩ = some (.bool n0_3)) := Lib.hid (oldM G8.out F3_7.out)
  have B0_8 : Hid ((w7.alloc (.cells #[.int .i64 x0, .int .i64 x1, .int .i64 x2, .int .i64 x3] 39)).cell? ⟨w3.heap.size, 0, none⟩ = some (.int .i64 x0)) := Lib.hid (oldM G8.out B0_7.out)
  have B1_8 : Hid ((w7.alloc (.cells #[.int .i64 x0, .int .i64 x1, .int .i64 x2, .int .i64 x3] 39)).cell? ⟨w3.heap.size, 1, none⟩ = some (.int .i64 x1)) := Lib.hid (oldM G8.out B1_7.out)
  have B2_8 : Hid ((w7.alloc (.cells #[.int .i64 x0, .int .i64 x1, .int .i64 x2, .int .i64 x3] 39)).cell? ⟨w3.heap.size, 2, none⟩ = some (.int .i64 x2)) := Lib.hid (oldM G8.out B2_7.out)
  have B3_8 : Hid ((w7.alloc (.cells #[.int .i64 x0, .int .i64 x1, .int .i64 x2, .int .i64 x3] 39)).cell? ⟨w3.heap.size, 3, none⟩ = some (.int .i64 x3)) := Lib.hid (oldM G8.out B3_7.out)
  have Vr0_8 : Hid (RiT (w7.alloc (.cells #[.int .i64 x0, .int .i64 x1, .int .i64 x2, .int .i64 x3] 39)).heap.size (w7.alloc (.cells #[.int .i64 x0, .int .i64 x1, .int .i64 x2, .int .i64 x3] 39)) (.slice VA0 xs0_0.length xs0_0.length) xs0_0) := Lib.hid (Vr0_7.out.at (Nat.le_refl _) G8.out)
  have Vr1_8 : Hid (RiU (w7.alloc (.cells #[.int .i64 x0, .int .i64 x1, .int .i64 x2, .int .i64 x3] 39)).heap.size (w7.alloc (.cells #[.int .i64 x0, .int .i64 x1, .int .i64 x2, .int .i64 x3] 39)) (.slice VA1 xs0_1.length xs0_1.length) xs0_1) := Lib.hid (Vr1_7.out.at (Nat.le_refl _) G8.out)
  have K0_8 : Hid ((w7.alloc (.cells #[.int .i64 x0, .int .i64 x1, .int .i64 x2, .int .i64 x3] 39)).cell? ⟨w5.heap.size, 0, none⟩ = some (.slice VA0 xs0_0.length xs0_0.length)) := Lib.hid (oldM G8.out K0_7.out)
  have K1_8 : Hid ((w7.alloc (.cells #[.int .i64 x0, .int .i64 x1, .int .i64 x2, .int .i64 x3] 39)).cell? ⟨w5.heap.size, 1, none⟩ = some (.slice VA1 xs0_1.length xs0_1.length)) := Lib.hid (oldM G8.out K1_7.out)
  have K2_8 : Hid ((w7.alloc (.cells #[.int .i64 x0, .int .i64 x1, .int .i64 x2, .int .i64 x3] 39)).cell? ⟨w5.heap.size, 2, none⟩ = some (.int .i64 n0_2)) := Lib.hid (oldM G8.out K2_7.out)
  have K3_8 : Hid ((w7.alloc (.cells #[.int .i64 x0, .int .i64 x1, .int .i64 x2, .int .i64 x3] 39)).cell? ⟨w5.heap.size, 3, none⟩ = some (.bool n0_3)) := Lib.hid (oldM G8.out K3_7.out)
  have HB8 : Hid (Below w.heap.size w (w7.alloc (.cells #[.int .i64 x0, .int .i64 x1, .int .i64 x2, .int .i64 x3] 39))) := Lib.hid (HB7.out.trans (G8.out.mono HB7.out.size))
  have C0_8 : Hid ((w7.alloc (.cells #[.int .i64 x0, .int .i64 x1, .int .i64 x2, .int .i64 x3] 39)).cell? ⟨w7.heap.size, 0, none⟩ = some (.int .i64 x0)) := Lib.hid (by rw [cell_of_row _ _ _ _ _ _ (heap_alloc_new w7 _)]; rfl)
  have C1_8 : Hid ((w7.alloc (.cells #[.int .i64 x0, .int .i64 x1, .int .i64 x2, .int .i64 x3] 39)).cell? ⟨w7.heap.size, 1, none⟩ = some (.int .i64 x1)) := Lib.hid (by rw [cell_of_row _ _ _ _ _ _ (heap_alloc_new w7 _)]; rfl)
  have C2_8 : Hid ((w7.alloc (.cells #[.int .i64 x0, .int .i64 x1, .int .i64 x2, .int .i64 x3] 39)).cell? ⟨w7.heap.size, 2, none⟩ = some (.int .i64 x2)) := Lib.hid (by rw [cell_of_row _ _ _ _ _ _ (heap_alloc_new w7 _)]; rfl)
  have C3_8 : Hid ((w7.alloc (.cells #[.int .i64 x0, .int .i64 x1, .int .i64 x2, .int .i64 x3] 39)).cell? ⟨w7.heap.size, 3, none⟩ = some (.int .i64 x3)) := Lib.hid (by rw [cell_of_row _ _ _ _ _ _ (heap_alloc_new w7 _)]; rfl)
  have qF0 := F0_8.out
  have qF1 := F1_8.out
  have qF2 := F2_8.out
  have qF3 := F3_8.out
  have qB0 := B0_8.out
  have qB1 := B1_8.out
  have qB2 := B2_8.out
  have qB3 := B3_8.out
  have qK0 := K0_8.out
  have qK1 := K1_8.out
  have qK2 := K2_8.out
  have qK3 := K3_8.out
  have qC0 := C0_8.out
  have qC1 := C1_8.out
  have qC2 := C2_8.out
  have qC3 := C3_8.out
  go_wp2_with fail
  clear qF0 qF1 qF2 qF3 qB0 qB1 qB2 qB3 qK0 qK1 qK2 qK3 qC0 qC1 qC2 qC3
  generalize (w7.alloc (.cells #[.int .i64 x0, .int .i64 x1, .int .i64 x2, .int .i64 x3] 39)) = w8 at *
  refine (eqSuper_any x0 x1 x2 x3 w8).mono ?_
  rintro e w9 ⟨rfl, g⟩
  have G9 := Lib.hid g; clear g
  have F0_9 : Hid (w9.cell? ⟨w.heap.size, 0, none⟩ = some (.slice A0_0 xs0_0.length c0_0)) := Lib.hid (oldM G9.out F0_8.out)
  have F1_9 : Hid (w9.cell? ⟨w.heap.size, 1, none⟩ = some (.slice A0_1 xs0_1.length c0_1)) := Lib.hid (oldM G9.out F1_8.out)
  have F2_9 : Hid (w9.cell? ⟨w.heap.size, 2, none⟩ = some (.int .i64 n0_2)) := Lib.hid (oldM G9.out F2_8.out)
  have F3_9 : Hid (w9.cell? ⟨w.heap.size, 3, none⟩ = some (.bool n0_3)) := Lib.hid (oldM G9.out F3_8.out)
  have B0_9 : Hid (w9.cell? ⟨w3.heap.size, 0, none⟩ = some (.int .i64 x0)) := Lib.hid (oldM G9.out B0_8.out)
  have B1_9 : Hid (w9.cell? ⟨w3.heap.size, 1, none⟩ = some (.int .i64 x1)) := Lib.hid (oldM G9.out B1_8.out)
  have B2_9 : Hid (w9.cell? ⟨w3.heap.size, 2, none⟩ = some (.int .i64 x2)) := Lib.hid (oldM G9.out B2_8.out)
  have B3_9 : Hid (w9.cell? ⟨w3.heap.size, 3, none⟩ = some (.int .i64 x3)) := Lib.hid (oldM G9.out B3_8.out)
  have Vr0_9 : Hid (RiT w9.heap.size w9 (.slice VA0 xs0_0.length xs0_0.length) xs0_0) := Lib.hid (Vr0_8.out.at (Nat.le_refl _) G9.out)
  have Vr1_9 : Hid (RiU w9.heap.size w9 (.slice VA1 xs0_1.length xs0_1.length) xs0_1) := Lib.hid (Vr1_8.out.at (Nat.le_refl _) G9.out)
  have K0_9 : Hid (w9.cell? ⟨w5.heap.size, 0, none⟩ = some (.slice VA0 xs0_0.length xs0_0.length)) := Lib.hid (oldM G9.out K0_8.out)
  have K1_9 : Hid (w9.cell? ⟨w5.heap.size, 1, none⟩ = some (.slice VA1 xs0_1.length xs0_1.length)) := Lib.hid (oldM G9.out K1_8.out)
  have K2_9 : Hid (w9.cell? ⟨w5.heap.size, 2, none⟩ = some (.int .i64 n0_2)) := Lib.hid (oldM G9.out K2_8.out)
  have K3_9 : Hid (w9.cell? ⟨w5.heap.size, 3, none⟩ = some (.bool n0_3)) := Lib.hid (oldM G9.out K3_8.out)
  have C0_9 : Hid (w9.cell? ⟨w7.heap.size, 0, none⟩ = some (.int .i64 x0)) := Lib.hid (oldM G9.out C0_8.out)
  have C1_9 : Hid (w9.cell? ⟨w7.heap.size, 1, none⟩ = some (.int .i64 x1)) := Lib.hid (oldM G9.out C1_8.out)
  have C2_9 : Hid (w9.cell? ⟨w7.heap.size, 2, none⟩ = some (.int .i64 x2)) := Lib.hid (oldM G9.out C2_8.out)
  have C3_9 : Hid (w9.cell? ⟨w7.heap.size, 3, none⟩ = some (.int .i64 x3)) := Lib.hid (oldM G9.out C3_8.out)
  have HB9 : Hid (Below w.heap.size w w9) := Lib.hid (HB8.out.trans (G9.out.mono HB8.out.size))
  have ey : (co == co) = true := by simp
  have HSd : Hid (∀ W, Below w9.heap.size w9 W → W.cell? ⟨w.heap.size, 0, none⟩ = some (.slice A0_0 xs0_0.length c0_0) ∧ W.cell? ⟨w.heap.size, 1, none⟩ = some (.slice A0_1 xs0_1.length c0_1) ∧ W.cell? ⟨w.heap.size, 2, none⟩ = some (.int .i64 n0_2) ∧ W.cell? ⟨w.heap.size, 3, none⟩ = some (.bool n0_3) ∧ W.cell? ⟨w5.heap.size, 0, none⟩ = some (.slice VA0 xs0_0.length xs0_0.length) ∧ W.cell? ⟨w5.heap.size, 1, none⟩ = some (.slice VA1 xs0_1.length xs0_1.length) ∧ W.cell? ⟨w5.heap.size, 2, none⟩ = some (.int .i64 n0_2) ∧ W.cell? ⟨w5.heap.size, 3, none⟩ = some (.bool n0_3)) := Lib.hid (fun W hW => ⟨oldM hW F0_9.out, oldM hW F1_9.out, oldM hW F2_9.out, oldM hW F3_9.out, oldM hW K0_9.out, oldM hW K1_9.out, oldM hW K2_9.out, oldM hW K3_9.out⟩)
  have HDd : Hid (Below w9.heap.size w9 w9.drew) := Lib.hid (Below.refl _ _).drew
  have HEd : Hid (Below w.heap.size w w9.drew) := Lib.hid (HB9.out.trans (HDd.out.mono HB9.out.size))
  have qF0 := F0_9.out
  have qF1 := F1_9.out
  have qF2 := F2_9.out
  have qF3 := F3_9.out
  have qK0 := K0_9.out
  have qK1 := K1_9.out
  have qK2 := K2_9.out
  have qK3 := K3_9.out
  go_wp2
  clear qF0 qF1 qF2 qF3 qK0 qK1 qK2 qK3
  go_region_held3 (fun W => W.cell? ⟨w.heap.size, 0, none⟩ = some (.slice A0_0 xs0_0.length c0_0) ∧ W.cell? ⟨w.heap.size, 1, none⟩ = some (.slice A0_1 xs0_1.length c0_1) ∧ W.cell? ⟨w.heap.size, 2, none⟩ = some (.int .i64 n0_2) ∧ W.cell? ⟨w.heap.size, 3, none⟩ = some (.bool n0_3) ∧ W.cell? ⟨w5.heap.size, 0, none⟩ = some (.slice VA0 xs0_0.length xs0_0.length) ∧ W.cell? ⟨w5.heap.size, 1, none⟩ = some (.slice VA1 xs0_1.length xs0_1.length) ∧ W.cell? ⟨w5.heap.size, 2, none⟩ = some (.int .i64 n0_2) ∧ W.cell? ⟨w5.heap.size, 3, none⟩ = some (.bool n0_3)) (exact HSd.out _ (by first | exact kb | exact ka | exact HDd.out))
    ((first | (go_at_call 57; go_fit (toDisk_rd (H0_0.out.at (Nat.le_refl _) HEd.out) (H0_1.out.at (Nat.le_refl _) HEd.out) (Nat.le_refl _) SM.out); rintro e ua ⟨NA0, NA1, rfl, r0, r1, ga⟩; have N0 := Lib.hid r0; have N1 := Lib.hid r1; clear r0 r1; have ka : Below w9.heap.size w9 ua := HDd.out.trans ga; clear ga) | (go_at_call 59; go_fit (eqDisk_any (Vr0_9.out.at (Nat.le_refl _) ka) (Vr1_9.out.at (Nat.le_refl _) ka) N0.out N1.out (Nat.le_refl _)); rintro e w10 ⟨rfl, gb⟩; have kb : Below w9.heap.size w9 w10 := ka.trans (gb.mono ka.size); clear gb)))
  try simp only [Exit.then]
  have G10 := Lib.hid kb; clear kb ka
  have F0_10 : Hid (w10.cell? ⟨w.heap.size, 0, none⟩ = some (.slice A0_0 xs0_0.length c0_0)) := Lib.hid (oldM G10.out F0_9.out)
  have F1_10 : Hid (w10.cell? ⟨w.heap.size, 1, none⟩ = some (.slice A0_1 xs0_1.length c0_1)) := Lib.hid (oldM G10.out F1_9.out)
  have F2_10 : Hid (w10.cell? ⟨w.heap.size, 2, none⟩ = some (.int .i64 n0_2)) := Lib.hid (oldM G10.out F2_9.out)
  have F3_10 : Hid (w10.cell? ⟨w.heap.size, 3, none⟩ = some (.bool n0_3)) := Lib.hid (oldM G10.out F3_9.out)
  have Vr0_10 : Hid (RiT w10.heap.size w10 (.slice VA0 xs0_0.length xs0_0.length) xs0_0) := Lib.hid (Vr0_9.out.at (Nat.le_refl _) G10.out)
  have Vr1_10 : Hid (RiU w10.heap.size w10 (.slice VA1 xs0_1.length xs0_1.length) xs0_1) := Lib.hid (Vr1_9.out.at (Nat.le_refl _) G10.out)
  have K0_10 : Hid (w10.cell? ⟨w5.heap.size, 0, none⟩ = some (.slice VA0 xs0_0.length xs0_0.length)) := Lib.hid (oldM G10.out K0_9.out)
  have K1_10 : Hid (w10.cell? ⟨w5.heap.size, 1, none⟩ = some (.slice VA1 xs0_1.length xs0_1.length)) := Lib.hid (oldM G10.out K1_9.out)
  have K2_10 : Hid (w10.cell? ⟨w5.heap.size, 2, none⟩ = some (.int .i64 n0_2)) := Lib.hid (oldM G10.out K2_9.out)
  have K3_10 : Hid (w10.cell? ⟨w5.heap.size, 3, none⟩ = some (.bool n0_3)) := Lib.hid (oldM G10.out K3_9.out)
  have HB10 : Hid (Below w.heap.size w w10) := Lib.hid (HB9.out.trans (G10.out.mono HB9.out.size))
  have qF0 := F0_10.out
  have qF1 := F1_10.out
  have qF2 := F2_10.out
  have qF3 := F3_10.out
  have qK0 := K0_10.out
  have qK1 := K1_10.out
  have qK2 := K2_10.out
  have qK3 := K3_10.out
  go_wp2_with fail
  clear qF0 qF1 qF2 qF3 qK0 qK1 qK2 qK3
  go_ret
  exact ⟨rfl, HB10.out⟩
theorem own : ownKnob Try.prog.godebug = none := by kernel_rfl
theorem laidOut : laidOutB Try.prog = true := by kernel_rfl
set_option maxRecDepth 100000 in
theorem lifted (os : Os) (started : os.Started) (H : Type) (enc : TypeId × Value → H) :
    ReturnsInHanded {} Try.checked os 15 .any (Rows.fnExactChooseSuperSpec.pre6 enc Try.prog Try.f15 Rows.fnExactChooseSuperRow.domain false) (Rows.fnExactChooseSuperSpec.post enc Try.prog Try.f15 false true false false) := by
  refine returnsInHanded_of_change (C := Try.checked) own started (by kernel_rfl) Try.func15
    (ChangeSpec.witness6 (enc := enc) (C := Try.checked) false ⟨#[], #[.agg #[.slice none 0 0, .slice none 0 0, .int .i64 0, .bool false]], []⟩ 8 (by kernel_rfl) (by kernel_rfl) (by kernel_rfl) (by kernel_rfl)) ?_
  intro W base args ds gs before hval0 hW hcnd _
  have hval : ∀ (j : Nat) t v, Try.f15.params[j]? = some t → args[j]? = some v → Value.okWide Try.prog W .any base t v := hval0
  have hW' := hW
  obtain ⟨p, q, hA0, hV, rfl, hfz, hnd⟩ := hW
  have hA : DataW.TrodAll enc Try.prog W 0 (fun _ => true) true Try.f15.params.toList args.toList ds p := hA0
  rw [Try.params15] at hA hval
  obtain ⟨v0, vs0, d0, ds0, p0, q0, hargs, rfl, rfl, h0, r0⟩ := trodAll_cons hA
  obtain ⟨rfl, rfl, rfl⟩ := trodAll_nil r0
  obtain rfl : args = #[v0] := by cases args; simp_all
  obtain ⟨rfl, rfl⟩ := trodVars_none hV
  have k0 := h0
  have lt0 : ∀ x ∈ p0, x.block < W.heap.size := by obtain ⟨m, hm⟩ := k0; exact DataW.trod_lt m _ _ _ hm
  obtain ⟨v0_0, xs0_0, v0_1, xs0_1, n0_2, n0_3, rfl, g0_0, g0_1, g0_2⟩ := open_disk (hval 0 27 v0 rfl rfl) h0
  clear hA0 hval0
  refine (walk W _ _ _ _ _ _ g0_0 g0_1 g0_2).mono fun e W' ⟨he, bel⟩ => ?_
  subst he
  exact ⟨_, rfl, _, _, _, [], _, [], hW', (trodAll_cons_mk (shut_bool Try.underlying4 _) trodAll_mk0), (trodAll_cons_mk (Below.trod laidOut (by kernel_rfl) (of_decide_eq_true (by kernel_rfl)) k0 bel lt0) trodAll_mk0), rfl, bel.frame _, fun h => by cases h⟩
theorem closed : joinedFacts Try.pinned.checked.prog 15 Try.f15 Rows.fnExactChooseSuperSpec Rows.fnExactChooseSuperRow = true := by
  unfold joinedFacts
  rw [mayE, lifF, mkP]
  kernel_rfl
theorem over : Rows.fnExactChooseSuperRow.holds Try.pinned (OpenSpec.ofChange Rows.fnExactChooseSuperSpec) :=
  OpenClaim.holds_of_wide 15 Try.f15 rfl rfl rfl rfl rfl rfl rfl ⟨rfl, rfl, rfl, rfl, rfl⟩ rfl rfl rfl rfl rfl (by kernel_rfl) Try.func15 closed
    (of_decide_eq_true (by kernel_rfl)) (by unfold Func.isWrapper; rw [if_neg (of_decide_eq_false (by kernel_rfl))]; exact ⟨rfl, rfl⟩)
    (fun os started H enc _ => lifted os started H enc)
theorem proved : Rows.FnExactChooseSuperSaid := over
end Go.Proofs.Ytlickjmdlooapaa.fnExactChooseSuper
