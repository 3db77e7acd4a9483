/- The statement of the law FnExactFreeRuns: whatever the input, the program's function answers as the model's, and the input reads as it did. Its conditions are the given statement's own; nothing is added. -/
import Derived.Test.YtlickjmdlooapaaJf
import Derived.Test.YtlickjmdlooapaaFrm
import Derived.Test.YtlickjmdlooapaaMrR
import Derived.Test.YtlickjmdlooapaaPg2
import Derived.Test.YtlickjmdlooapaaFrmP
import Derived.ProofKit
import Derived.OpenShut
import Derived.ShutString
import Derived.ChangeOld
import Derived.Below
import Derived.Deep.DeepFit
import Derived.Deep.WholeRow
import Derived.Deep.RegionHeld3
namespace Go.Proofs.Ytlickjmdlooapaa.fnExactFreeRuns
open Go.ChangeShapes Go.WideShapes Go.ChangeAt Go.RowKit
open Go.ChangeMaps (open_string shut_string)
set_option linter.unusedVariables false
theorem oldM {w1 u : World} {p : Addr} {v : Value} (g : Below w1.heap.size w1 u) (h : w1.cell? p = some v) : u.cell? p = some v := (g.cell (World.block_lt_of_cell? w1 p h)).trans h
set_option maxHeartbeats 8000000 in
set_option maxRecDepth 100000 in
theorem walk (w : World) (v0_0 : Value) (xs0_0 : List ByteArray) (v0_1 : Value) (xs0_1 : List Pt) (n0_2 : Int) (n0_3 : Bool) (n0_4 : Int) (n0_5 : Int) (n0_6 : Int) (n0_7 : Int) (n0_8 : Int) (n0_9 : Int) (v0_10 : Value) (xs0_10 : List Pt) (v0_11 : Value) (xs0_11 : List Pt) (h0_0 : RiT w.heap.size w v0_0 xs0_0) (h0_1 : RiU w.heap.size w v0_1 xs0_1) (h0_2 : InI n0_2) (h0_4 : InI n0_4) (h0_5 : InI n0_5) (h0_6 : InI n0_6) (h0_7 : InI n0_7) (h0_8 : InI n0_8) (h0_9 : InI n0_9) (h0_10 : RiU w.heap.size w v0_10 xs0_10) (h0_11 : RiU w.heap.size w v0_11 xs0_11) :
    Calls Try.prog 7 #[.agg #[v0_0, v0_1, .int .i64 n0_2, .bool n0_3, .int .i64 n0_4, .int .i64 n0_5, .int .i64 n0_6, .int .i64 n0_7, .int .i64 n0_8, .int .i64 n0_9, v0_10, v0_11]] w (GivesB (.bool true) w) := by
  have H0_0 := Lib.hid h0_0; obtain ⟨A0_0, c0_0, rfl, -, -, -⟩ := h0_0
  have H0_1 := Lib.hid h0_1; obtain ⟨A0_1, c0_1, rfl, -, -, -⟩ := h0_1
  have N0_2 := Lib.hid h0_2; clear h0_2
  have N0_4 := Lib.hid h0_4; clear h0_4
  have N0_5 := Lib.hid h0_5; clear h0_5
  have N0_6 := Lib.hid h0_6; clear h0_6
  have N0_7 := Lib.hid h0_7; clear h0_7
  have N0_8 := Lib.hid h0_8; clear h0_8
  have N0_9 := Lib.hid h0_9; clear h0_9
  have H0_10 := Lib.hid h0_10; obtain ⟨A0_10, c0_10, rfl, -, -, -⟩ := h0_10
  have H0_11 := Lib.hid h0_11; obtain ⟨A0_11, c0_11, rfl, -, -, -⟩ := h0_11
  have S0 := Lib.hid (fun (W : World) (X0_0 : Option Addr) (X0_1 : Option Addr) (X0_10 : Option Addr) (X0_11 : Option Addr) (g0_0 : RiT W.heap.size W (.slice X0_0 xs0_0.length xs0_0.length) xs0_0) (g0_1 : RiU W.heap.size W (.slice X0_1 xs0_1.length xs0_1.length) xs0_1) (g0_10 : RiU W.heap.size W (.slice X0_10 xs0_10.length xs0_10.length) xs0_10) (g0_11 : RiU W.heap.size W (.slice X0_11 xs0_11.length xs0_11.length) xs0_11) => specFreeRuns_any g0_0 g0_1 g0_10 g0_11 (Nat.le_refl _) N0_4.out N0_5.out (fz := n0_2) (off := n0_3) (b := n0_4) (l := n0_5) (q := n0_6) (t := n0_7) (sq := n0_8) (at_ := n0_9))
  have P0 := Lib.hid (fun (W : World) (X0_0 : Option Addr) (X0_1 : Option Addr) (X0_10 : Option Addr) (X0_11 : Option Addr) (g0_0 : RiT W.heap.size W (.slice X0_0 xs0_0.length xs0_0.length) xs0_0) (g0_1 : RiU W.heap.size W (.slice X0_1 xs0_1.length xs0_1.length) xs0_1) (g0_10 : RiU W.heap.size W (.slice X0_10 xs0_10.length xs0_10.length) xs0_10) (g0_11 : RiU W.heap.size W (.slice X0_11 xs0_11.length xs0_11.length) xs0_11) => implFreeRuns_any g0_0 g0_1 g0_10 g0_11 (Nat.le_refl _) N0_4.out N0_5.out (fz := n0_2) (off := n0_3) (b := n0_4) (l := n0_5) (q := n0_6) (t := n0_7) (sq := n0_8) (at_ := n0_9))
  obtain ⟨D, hD⟩ : ∃ D, D = frR xs0_0 xs0_1 n0_2 n0_3 n0_4 n0_5 n0_6 n0_7 n0_8 n0_9 xs0_10 xs0_11 := ⟨_, rfl⟩
  have OKD : Hid ((∀ p ∈ D, InI p.1 ∧ InI p.2) ∧ D.length ≤ 2097152) := Lib.hid (by rw [hD]; exact (by unfold frR; split; (rename_i hok; have hb := pgrOk_b hok; have h2 := frL_bd (ar := arS xs0_0 xs0_1 n0_5 xs0_10 xs0_11) (l := n0_5) (b := n0_4) (by omega) (by omega); exact ⟨frL_wf (by omega) (by omega), by have := h2.2.2; omega⟩); exact ⟨fun p hp => by simp at hp, by simp⟩))
  rw [← hD] at S0 P0
  clear hD
  have HB0 : Hid (Below w.heap.size w (w.alloc (.cells #[.slice A0_0 xs0_0.length c0_0, .slice A0_1 xs0_1.length c0_1, .int .i64 n0_2, .bool n0_3, .int .i64 n0_4, .int .i64 n0_5, .int .i64 n0_6, .int .i64 n0_7, .int .i64 n0_8, .int .i64 n0_9, .slice A0_10 xs0_10.length c0_10, .slice A0_11 xs0_11.length c0_11] 32))) := Lib.hid ((Below.refl _ _).alloc (Nat.le_refl _) _)
  have F0_0_0 : Hid ((w.alloc (.cells #[.slice A0_0 xs0_0.length c0_0, .slice A0_1 xs0_1.length c0_1, .int .i64 n0_2, .bool n0_3, .int .i64 n0_4, .int .i64 n0_5, .int .i64 n0_6, .int .i64 n0_7, .int .i64 n0_8, .int .i64 n0_9, .slice A0_10 xs0_10.length c0_10, .slice A0_11 xs0_11.length c0_11] 32)).cell? ⟨w.heap.size, 0, none⟩ = some (.slice A0_0 xs0_0.length c0_0)) := Lib.hid (by rw [cell_of_row _ _ _ _ _ _ (heap_alloc_new w _)]; rfl)
  have F0_1_0 : Hid ((w.alloc (.cells #[.slice A0_0 xs0_0.length c0_0, .slice A0_1 xs0_1.length c0_1, .int .i64 n0_2, .bool n0_3, .int .i64 n0_4, .int .i64 n0_5, .int .i64 n0_6, .int .i64 n0_7, .int .i64 n0_8, .int .i64 n0_9, .slice A0_10 xs0_10.length c0_10, .slice A0_11 xs0_11.length c0_11] 32)).cell? ⟨w.heap.size, 1, none⟩ = some (.slice A0_1 xs0_1.length c0_1)) := Lib.hid (by rw [cell_of_row _ _ _ _ _ _ (heap_alloc_new w _)]; rfl)
  have F0_2_0 : Hid ((w.alloc (.cells #[.slice A0_0 xs0_0.length c0_0, .slice A0_1 xs0_1.length c0_1, .int .i64 n0_2, .bool n0_3, .int .i64 n0_4, .int .i64 n0_5, .int .i64 n0_6, .int .i64 n0_7, .int .i64 n0_8, .int .i64 n0_9, .slice A0_10 xs0_10.length c0_10, .slice A0_11 xs0_11.length c0_11] 32)).cell? ⟨w.heap.size, 2, none⟩ = some (.int .i64 n0_2)) := Lib.hid (by rw [cell_of_row _ _ _ _ _ _ (heap_alloc_new w _)]; rfl)
  have F0_3_0 : Hid ((w.alloc (.cells #[.slice A0_0 xs0_0.length c0_0, .slice A0_1 xs0_1.length c0_1, .int .i64 n0_2, .bool n0_3, .int .i64 n0_4, .int .i64 n0_5, .int .i64 n0_6, .int .i64 n0_7, .int .i64 n0_8, .int .i64 n0_9, .slice A0_10 xs0_10.length c0_10, .slice A0_11 xs0_11.length c0_11] 32)).cell? ⟨w.heap.size, 3, none⟩ = some (.bool n0_3)) := Lib.hid (by rw [cell_of_row _ _ _ _ _ _ (heap_alloc_new w _)]; rfl)
  have F0_4_0 : Hid ((w.alloc (.cells #[.slice A0_0 xs0_0.length c0_0, .slice A0_1 xs0_1.length c0_1, .int .i64 n0_2, .bool n0_3, .int .i64 n0_4, .int .i64 n0_5, .int .i64 n0_6, .int .i64 n0_7, .int .i64 n0_8, .int .i64 n0_9, .slice A0_10 xs0_10.length c0_10, .slice A0_11 xs0_11.length c0_11] 32)).cell? ⟨w.heap.size, 4, none⟩ = some (.int .i64 n0_4)) := Lib.hid (by rw [cell_of_row _ _ _ _ _ _ (heap_alloc_new w _)]; rfl)
  have F0_5_0 : Hid ((w.alloc (.cells #[.slice A0_0 xs0_0.length c0_0, .slice A0_1 xs0_1.length c0_1, .int .i64 n0_2, .bool n0_3, .int .i64 n0_4, .int .i64 n0_5, .int .i64 n0_6, .int .i64 n0_7, .int .i64 n0_8, .int .i64 n0_9, .slice A0_10 xs0_10.length c0_10, .slice A0_11 xs0_11.length c0_11] 32)).cell? ⟨w.heap.size, 5, none⟩ = some (.int .i64 n0_5)) := Lib.hid (by rw [cell_of_row _ _ _ _ _ _ (heap_alloc_new w _)]; rfl)
  have F0_6_0 : Hid ((w.alloc (.cells #[.slice A0_0 xs0_0.length c0_0, .slice A0_1 xs0_1.length c0_1, .int .i64 n0_2, .bool n0_3, .int .i64 n0_4, .int .i64 n0_5, .int .i64 n0_6, .int .i64 n0_7, .int .i64 n0_8, .int .i64 n0_9, .slice A0_10 xs0_10.length c0_10, .slice A0_11 xs0_11.length c0_11] 32)).cell? ⟨w.heap.size, 6, none⟩ = some (.int .i64 n0_6)) := Lib.hid (by rw [cell_of_row _ _ _ _ _ _ (heap_alloc_new w _)]; rfl)
  have F0_7_0 : Hid ((w.alloc (.cells #[.slice A0_0 xs0_0.length c0_0, .slice A0_1 xs0_1.length c0_1, .int .i64 n0_2, .bool n0_3, .int .i64 n0_4, .int .i64 n0_5, .int .i64 n0_6, .int .i64 n0_7, .int .i64 n0_8, .int .i64 n0_9, .slice A0_10 xs0_10.length c0_10, .slice A0_11 xs0_11.length c0_11] 32)).cell? ⟨w.heap.size, 7, none⟩ = some (.int .i64 n0_7)) := Lib.hid (by rw [cell_of_row _ _ _ _ _ _ (heap_alloc_new w _)]; rfl)
  have F0_8_0 : Hid ((w.alloc (.cells #[.slice A0_0 xs0_0.length c0_0, .slice A0_1 xs0_1.length c0_1, .int .i64 n0_2, .bool n0_3, .int .i64 n0_4, .int .i64 n0_5, .int .i64 n0_6, .int .i64 n0_7, .int .i64 n0_8, .int .i64 n0_9, .slice A0_10 xs0_10.length c0_10, .slice A0_11 xs0_11.length c0_11] 32)).cell? ⟨w.heap.size, 8, none⟩ = some (.int .i64 n0_8)) := Lib.hid (by rw [cell_of_row _ _ _ _ _ _ (heap_alloc_new w _)]; rfl)
  have F0_9_0 : Hid ((w.alloc (.cells #[.slice A0_0 xs0_0.length c0_0, .slice A0_1 xs0_1.length c0_1, .int .i64 n0_2, .bool n0_3, .int .i64 n0_4, .int .i64 n0_5, .int .i64 n0_6, .int .i64 n0_7, .int .i64 n0_8, .int .i64 n0_9, .slice A0_10 xs0_10.length c0_10, .slice A0_11 xs0_11.length c0_11] 32)).cell? ⟨w.heap.size, 9, none⟩ = some (.int .i64 n0_9)) := Lib.hid (by rw [cell_of_row _ _ _ _ _ _ (heap_alloc_new w _)]; rfl)
  have F0_10_0 : Hid ((w.alloc (.cells #[.slice A0_0 xs0_0.length c0_0, .slice A0_1 xs0_1.length c0_1, .int .i64 n0_2, .bool n0_3, .int .i64 n0_4, .int .i64 n0_5, .int .i64 n0_6, .int .i64 n0_7, .int .i64 n0_8, .int .i64 n0_9, .slice A0_10 xs0_10.length c0_10, .slice A0_11 xs0_11.length c0_11] 32)).cell? ⟨w.heap.size, 10, none⟩ = some (.slice A0_10 xs0_10.length c0_10)) := Lib.hid (by rw [cell_of_row _ _ _ _ _ _ (heap_alloc_new w _)]; rfl)
  have F0_11_0 : Hid ((w.alloc (.cells #[.slice A0_0 xs0_0.length c0_0, .slice A0_1 xs0_1.length c0_1, .int .i64 n0_2, .bool n0_3, .int .i64 n0_4, .int .i64 n0_5, .int .i64 n0_6, .int .i64 n0_7, .int .i64 n0_8, .int .i64 n0_9, .slice A0_10 xs0_10.length c0_10, .slice A0_11 xs0_11.length c0_11] 32)).cell? ⟨w.heap.size, 11, none⟩ = some (.slice A0_11 xs0_11.length c0_11)) := Lib.hid (by rw [cell_of_row _ _ _ _ _ _ (heap_alloc_new w _)]; rfl)
  have SZ0 : Hid (w.heap.size + 1 ≤ (w.alloc (.cells #[.slice A0_0 xs0_0.length c0_0, .slice A0_1 xs0_1.length c0_1, .int .i64 n0_2, .bool n0_3, .int .i64 n0_4, .int .i64 n0_5, .int .i64 n0_6, .int .i64 n0_7, .int .i64 n0_8, .int .i64 n0_9, .slice A0_10 xs0_10.length c0_10, .slice A0_11 xs0_11.length c0_11] 32)).heap.size) := Lib.hid (by simp)
  go_enter Try.func7, Try.ntmps7
  go_wp2_with fail
  generalize (w.alloc (.cells #[.slice A0_0 xs0_0.length c0_0, .slice A0_1 xs0_1.length c0_1, .int .i64 n0_2, .bool n0_3, .int .i64 n0_4, .int .i64 n0_5, .int .i64 n0_6, .int .i64 n0_7, .int .i64 n0_8, .int .i64 n0_9, .slice A0_10 xs0_10.length c0_10, .slice A0_11 xs0_11.length c0_11] 32)) = w0 at *
  refine (szPager_any (H0_0.out.at (Nat.le_refl _) HB0.out) (H0_1.out.at (Nat.le_refl _) HB0.out) (H0_10.out.at (Nat.le_refl _) HB0.out) (H0_11.out.at (Nat.le_refl _) HB0.out) (Nat.le_refl _) (1048576) (by omega) (by omega)).mono ?_
  rintro e w1 ⟨l0, rfl, hl0, hL0, hp0, g⟩
  have Pz0 := Lib.hid hp0; have G1 := Lib.hid g; have SZ1 : Hid (w0.heap.size ≤ w1.heap.size) := Lib.hid g.size; clear hp0 g
  have F0_0_1 : Hid (w1.cell? ⟨w.heap.size, 0, none⟩ = some (.slice A0_0 xs0_0.length c0_0)) := Lib.hid (oldM G1.out F0_0_0.out)
  have F0_1_1 : Hid (w1.cell? ⟨w.heap.size, 1, none⟩ = some (.slice A0_1 xs0_1.length c0_1)) := Lib.hid (oldM G1.out F0_1_0.out)
  have F0_2_1 : Hid (w1.cell? ⟨w.heap.size, 2, none⟩ = some (.int .i64 n0_2)) := Lib.hid (oldM G1.out F0_2_0.out)
  have F0_3_1 : Hid (w1.cell? ⟨w.heap.size, 3, none⟩ = some (.bool n0_3)) := Lib.hid (oldM G1.out F0_3_0.out)
  have F0_4_1 : Hid (w1.cell? ⟨w.heap.size, 4, none⟩ = some (.int .i64 n0_4)) := Lib.hid (oldM G1.out F0_4_0.out)
  have F0_5_1 : Hid (w1.cell? ⟨w.heap.size, 5, none⟩ = some (.int .i64 n0_5)) := Lib.hid (oldM G1.out F0_5_0.out)
  have F0_6_1 : Hid (w1.cell? ⟨w.heap.size, 6, none⟩ = some (.int .i64 n0_6)) := Lib.hid (oldM G1.out F0_6_0.out)
  have F0_7_1 : Hid (w1.cell? ⟨w.heap.size, 7, none⟩ = some (.int .i64 n0_7)) := Lib.hid (oldM G1.out F0_7_0.out)
  have F0_8_1 : Hid (w1.cell? ⟨w.heap.size, 8, none⟩ = some (.int .i64 n0_8)) := Lib.hid (oldM G1.out F0_8_0.out)
  have F0_9_1 : Hid (w1.cell? ⟨w.heap.size, 9, none⟩ = some (.int .i64 n0_9)) := Lib.hid (oldM G1.out F0_9_0.out)
  have F0_10_1 : Hid (w1.cell? ⟨w.heap.size, 10, none⟩ = some (.slice A0_10 xs0_10.length c0_10)) := Lib.hid (oldM G1.out F0_10_0.out)
  have F0_11_1 : Hid (w1.cell? ⟨w.heap.size, 11, none⟩ = some (.slice A0_11 xs0_11.length c0_11)) := Lib.hid (oldM G1.out F0_11_0.out)
  have HB1 : Hid (Below w.heap.size w w1) := Lib.hid (HB0.out.trans (G1.out.mono HB0.out.size))
  by_cases neg0 : l0 < 0
  · skip
    have qF0_0 := F0_0_1.out
    have qF0_1 := F0_1_1.out
    have qF0_2 := F0_2_1.out
    have qF0_3 := F0_3_1.out
    have qF0_4 := F0_4_1.out
    have qF0_5 := F0_5_1.out
    have qF0_6 := F0_6_1.out
    have qF0_7 := F0_7_1.out
    have qF0_8 := F0_8_1.out
    have qF0_9 := F0_9_1.out
    have qF0_10 := F0_10_1.out
    have qF0_11 := F0_11_1.out
    go_wp2_with fail
    go_ret
    exact ⟨rfl, HB1.out⟩
  have SM0 := Lib.hid (Pz0.out (by omega))
  have qF0_0 := F0_0_1.out
  have qF0_1 := F0_1_1.out
  have qF0_2 := F0_2_1.out
  have qF0_3 := F0_3_1.out
  have qF0_4 := F0_4_1.out
  have qF0_5 := F0_5_1.out
  have qF0_6 := F0_6_1.out
  have qF0_7 := F0_7_1.out
  have qF0_8 := F0_8_1.out
  have qF0_9 := F0_9_1.out
  have qF0_10 := F0_10_1.out
  have qF0_11 := F0_11_1.out
  go_wp2_with fail
  clear qF0_0 qF0_1 qF0_2 qF0_3 qF0_4 qF0_5 qF0_6 qF0_7 qF0_8 qF0_9 qF0_10 qF0_11
  refine (toPager2_any (H0_0.out.at (Nat.le_refl _) HB1.out) (H0_1.out.at (Nat.le_refl _) HB1.out) (H0_10.out.at (Nat.le_refl _) HB1.out) (H0_11.out.at (Nat.le_refl _) HB1.out) (Nat.le_refl _) SM0.out).mono ?_
  rintro e w2 ⟨TA0_0, TA0_1, TA0_10, TA0_11, Tp1, Tp2, rfl, oo0, oo1, oo10, oo11, Tap0, Twi0, Twi1, Twi10, Twi11, Tod0, Tod1, Tod2, g⟩
  have G2 := Lib.hid g; have SZ2 : Hid (w1.heap.size ≤ w2.heap.size) := Lib.hid g.size; clear g
  have F0_0_2 : Hid (w2.cell? ⟨w.heap.size, 0, none⟩ = some (.slice A0_0 xs0_0.length c0_0)) := Lib.hid (oldM G2.out F0_0_1.out)
  have F0_1_2 : Hid (w2.cell? ⟨w.heap.size, 1, none⟩ = some (.slice A0_1 xs0_1.length c0_1)) := Lib.hid (oldM G2.out F0_1_1.out)
  have F0_2_2 : Hid (w2.cell? ⟨w.heap.size, 2, none⟩ = some (.int .i64 n0_2)) := Lib.hid (oldM G2.out F0_2_1.out)
  have F0_3_2 : Hid (w2.cell? ⟨w.heap.size, 3, none⟩ = some (.bool n0_3)) := Lib.hid (oldM G2.out F0_3_1.out)
  have F0_4_2 : Hid (w2.cell? ⟨w.heap.size, 4, none⟩ = some (.int .i64 n0_4)) := Lib.hid (oldM G2.out F0_4_1.out)
  have F0_5_2 : Hid (w2.cell? ⟨w.heap.size, 5, none⟩ = some (.int .i64 n0_5)) := Lib.hid (oldM G2.out F0_5_1.out)
  have F0_6_2 : Hid (w2.cell? ⟨w.heap.size, 6, none⟩ = some (.int .i64 n0_6)) := Lib.hid (oldM G2.out F0_6_1.out)
  have F0_7_2 : Hid (w2.cell? ⟨w.heap.size, 7, none⟩ = some (.int .i64 n0_7)) := Lib.hid (oldM G2.out F0_7_1.out)
  have F0_8_2 : Hid (w2.cell? ⟨w.heap.size, 8, none⟩ = some (.int .i64 n0_8)) := Lib.hid (oldM G2.out F0_8_1.out)
  have F0_9_2 : Hid (w2.cell? ⟨w.heap.size, 9, none⟩ = some (.int .i64 n0_9)) := Lib.hid (oldM G2.out F0_9_1.out)
  have F0_10_2 : Hid (w2.cell? ⟨w.heap.size, 10, none⟩ = some (.slice A0_10 xs0_10.length c0_10)) := Lib.hid (oldM G2.out F0_10_1.out)
  have F0_11_2 : Hid (w2.cell? ⟨w.heap.size, 11, none⟩ = some (.slice A0_11 xs0_11.length c0_11)) := Lib.hid (oldM G2.out F0_11_1.out)
  have HB2 : Hid (Below w.heap.size w w2) := Lib.hid (HB1.out.trans (G2.out.mono HB1.out.size))
  have OT0_0_2 : Hid (OT w2 w1.heap.size (.slice TA0_0 xs0_0.length xs0_0.length) xs0_0) := Lib.hid oo0; clear oo0
  have IT0_0 := Lib.hid (own_wi OT0_0_2.out)
  have OT0_1_2 : Hid (OU w2 w1.heap.size (.slice TA0_1 xs0_1.length xs0_1.length) xs0_1) := Lib.hid oo1; clear oo1
  have IT0_1 := Lib.hid (own_wi OT0_1_2.out)
  have OT0_10_2 : Hid (OG w2 w1.heap.size (.slice TA0_10 xs0_10.length xs0_10.length) xs0_10) := Lib.hid oo10; clear oo10
  have IT0_10 := Lib.hid (own_wi OT0_10_2.out)
  have OT0_11_2 : Hid (OG w2 w1.heap.size (.slice TA0_11 xs0_11.length xs0_11.length) xs0_11) := Lib.hid oo11; clear oo11
  have IT0_11 := Lib.hid (own_wi OT0_11_2.out)
  have KTap0 := Lib.hid Tap0; clear Tap0
  have KTwi0 := Lib.hid Twi0; clear Twi0
  have KTwi1 := Lib.hid Twi1; clear Twi1
  have KTwi10 := Lib.hid Twi10; clear Twi10
  have KTwi11 := Lib.hid Twi11; clear Twi11
  have KTod0 := Lib.hid Tod0; clear Tod0
  have KTod1 := Lib.hid Tod1; clear Tod1
  have KTod2 := Lib.hid Tod2; clear Tod2
  have qF0_0 := F0_0_2.out
  have qF0_1 := F0_1_2.out
  have qF0_2 := F0_2_2.out
  have qF0_3 := F0_3_2.out
  have qF0_4 := F0_4_2.out
  have qF0_5 := F0_5_2.out
  have qF0_6 := F0_6_2.out
  have qF0_7 := F0_7_2.out
  have qF0_8 := F0_8_2.out
  have qF0_9 := F0_9_2.out
  have qF0_10 := F0_10_2.out
  have qF0_11 := F0_11_2.out
  go_wp2_with fail
  clear qF0_0 qF0_1 qF0_2 qF0_3 qF0_4 qF0_5 qF0_6 qF0_7 qF0_8 qF0_9 qF0_10 qF0_11
  refine (S0.out w2 _ _ _ _ (OT0_0_2.out.rit H0_0.out.inT) (OT0_1_2.out.riu H0_1.out.wf) (OT0_10_2.out.riu H0_10.out.wf) (OT0_11_2.out.riu H0_11.out.wf)).mono ?_
  rintro e w3 ⟨Zv, rfl, oa, g⟩
  have G3 := Lib.hid g; have SZ3 : Hid (w2.heap.size ≤ w3.heap.size) := Lib.hid g.size; clear g
  have F0_0_3 : Hid (w3.cell? ⟨w.heap.size, 0, none⟩ = some (.slice A0_0 xs0_0.length c0_0)) := Lib.hid (oldM G3.out F0_0_2.out)
  have F0_1_3 : Hid (w3.cell? ⟨w.heap.size, 1, none⟩ = some (.slice A0_1 xs0_1.length c0_1)) := Lib.hid (oldM G3.out F0_1_2.out)
  have F0_2_3 : Hid (w3.cell? ⟨w.heap.size, 2, none⟩ = some (.int .i64 n0_2)) := Lib.hid (oldM G3.out F0_2_2.out)
  have F0_3_3 : Hid (w3.cell? ⟨w.heap.size, 3, none⟩ = some (.bool n0_3)) := Lib.hid (oldM G3.out F0_3_2.out)
  have F0_4_3 : Hid (w3.cell? ⟨w.heap.size, 4, none⟩ = some (.int .i64 n0_4)) := Lib.hid (oldM G3.out F0_4_2.out)
  have F0_5_3 : Hid (w3.cell? ⟨w.heap.size, 5, none⟩ = some (.int .i64 n0_5)) := Lib.hid (oldM G3.out F0_5_2.out)
  have F0_6_3 : Hid (w3.cell? ⟨w.heap.size, 6, none⟩ = some (.int .i64 n0_6)) := Lib.hid (oldM G3.out F0_6_2.out)
  have F0_7_3 : Hid (w3.cell? ⟨w.heap.size, 7, none⟩ = some (.int .i64 n0_7)) := Lib.hid (oldM G3.out F0_7_2.out)
  have F0_8_3 : Hid (w3.cell? ⟨w.heap.size, 8, none⟩ = some (.int .i64 n0_8)) := Lib.hid (oldM G3.out F0_8_2.out)
  have F0_9_3 : Hid (w3.cell? ⟨w.heap.size, 9, none⟩ = some (.int .i64 n0_9)) := Lib.hid (oldM G3.out F0_9_2.out)
  have F0_10_3 : Hid (w3.cell? ⟨w.heap.size, 10, none⟩ = some (.slice A0_10 xs0_10.length c0_10)) := Lib.hid (oldM G3.out F0_10_2.out)
  have F0_11_3 : Hid (w3.cell? ⟨w.heap.size, 11, none⟩ = some (.slice A0_11 xs0_11.length c0_11)) := Lib.hid (oldM G3.out F0_11_2.out)
  have OT0_0_3 : Hid (OT w3 w1.heap.size (.slice TA0_0 xs0_0.length xs0_0.length) xs0_0) := Lib.hid (own_bel OT0_0_2.out G3.out)
  have OT0_1_3 : Hid (OU w3 w1.heap.size (.slice TA0_1 xs0_1.length xs0_1.length) xs0_1) := Lib.hid (own_bel OT0_1_2.out G3.out)
  have OT0_10_3 : Hid (OG w3 w1.heap.size (.slice TA0_10 xs0_10.length xs0_10.length) xs0_10) := Lib.hid (own_bel OT0_10_2.out G3.out)
  have OT0_11_3 : Hid (OG w3 w1.heap.size (.slice TA0_11 xs0_11.length xs0_11.length) xs0_11) := Lib.hid (own_bel OT0_11_2.out G3.out)
  have HB3 : Hid (Below w.heap.size w w3) := Lib.hid (HB2.out.trans (G3.out.mono HB2.out.size))
  obtain ⟨ZA, Zc, rfl⟩ := OR.opened oa
  have OZ_3 : Hid (OR w3 w2.heap.size (.slice ZA D.length Zc) D) := Lib.hid oa; clear oa
  have IZ := Lib.hid (own_wi OZ_3.out)
  have qF0_0 := F0_0_3.out
  have qF0_1 := F0_1_3.out
  have qF0_2 := F0_2_3.out
  have qF0_3 := F0_3_3.out
  have qF0_4 := F0_4_3.out
  have qF0_5 := F0_5_3.out
  have qF0_6 := F0_6_3.out
  have qF0_7 := F0_7_3.out
  have qF0_8 := F0_8_3.out
  have qF0_9 := F0_9_3.out
  have qF0_10 := F0_10_3.out
  have qF0_11 := F0_11_3.out
  go_wp2_with fail
  clear qF0_0 qF0_1 qF0_2 qF0_3 qF0_4 qF0_5 qF0_6 qF0_7 qF0_8 qF0_9 qF0_10 qF0_11
  refine (toPager2_any (H0_0.out.at (Nat.le_refl _) HB3.out) (H0_1.out.at (Nat.le_refl _) HB3.out) (H0_10.out.at (Nat.le_refl _) HB3.out) (H0_11.out.at (Nat.le_refl _) HB3.out) (Nat.le_refl _) SM0.out).mono ?_
  rintro e w4 ⟨VA0_0, VA0_1, VA0_10, VA0_11, Vp1, Vp2, rfl, oo0, oo1, oo10, oo11, Vap0, Vwi0, Vwi1, Vwi10, Vwi11, Vod0, Vod1, Vod2, g⟩
  have G4 := Lib.hid g; have SZ4 : Hid (w3.heap.size ≤ w4.heap.size) := Lib.hid g.size; clear g
  have F0_0_4 : Hid (w4.cell? ⟨w.heap.size, 0, none⟩ = some (.slice A0_0 xs0_0.length c0_0)) := Lib.hid (oldM G4.out F0_0_3.out)
  have F0_1_4 : Hid (w4.cell? ⟨w.heap.size, 1, none⟩ = some (.slice A0_1 xs0_1.length c0_1)) := Lib.hid (oldM G4.out F0_1_3.out)
  have F0_2_4 : Hid (w4.cell? ⟨w.heap.size, 2, none⟩ = some (.int .i64 n0_2)) := Lib.hid (oldM G4.out F0_2_3.out)
  have F0_3_4 : Hid (w4.cell? ⟨w.heap.size, 3, none⟩ = some (.bool n0_3)) := Lib.hid (oldM G4.out F0_3_3.out)
  have F0_4_4 : Hid (w4.cell? ⟨w.heap.size, 4, none⟩ = some (.int .i64 n0_4)) := Lib.hid (oldM G4.out F0_4_3.out)
  have F0_5_4 : Hid (w4.cell? ⟨w.heap.size, 5, none⟩ = some (.int .i64 n0_5)) := Lib.hid (oldM G4.out F0_5_3.out)
  have F0_6_4 : Hid (w4.cell? ⟨w.heap.size, 6, none⟩ = some (.int .i64 n0_6)) := Lib.hid (oldM G4.out F0_6_3.out)
  have F0_7_4 : Hid (w4.cell? ⟨w.heap.size, 7, none⟩ = some (.int .i64 n0_7)) := Lib.hid (oldM G4.out F0_7_3.out)
  have F0_8_4 : Hid (w4.cell? ⟨w.heap.size, 8, none⟩ = some (.int .i64 n0_8)) := Lib.hid (oldM G4.out F0_8_3.out)
  have F0_9_4 : Hid (w4.cell? ⟨w.heap.size, 9, none⟩ = some (.int .i64 n0_9)) := Lib.hid (oldM G4.out F0_9_3.out)
  have F0_10_4 : Hid (w4.cell? ⟨w.heap.size, 10, none⟩ = some (.slice A0_10 xs0_10.length c0_10)) := Lib.hid (oldM G4.out F0_10_3.out)
  have F0_11_4 : Hid (w4.cell? ⟨w.heap.size, 11, none⟩ = some (.slice A0_11 xs0_11.length c0_11)) := Lib.hid (oldM G4.out F0_11_3.out)
  have OZ_4 : Hid (OR w4 w2.heap.size (.slice ZA D.length Zc) D) := Lib.hid (own_bel OZ_3.out G4.out)
  have HB4 : Hid (Below w.heap.size w w4) := Lib.hid (HB3.out.trans (G4.out.mono HB3.out.size))
  have OV0_0_4 : Hid (OT w4 w3.heap.size (.slice VA0_0 xs0_0.length xs0_0.length) xs0_0) := Lib.hid oo0; clear oo0
  have IV0_0 := Lib.hid (own_wi OV0_0_4.out)
  have OV0_1_4 : Hid (OU w4 w3.heap.size (.slice VA0_1 xs0_1.length xs0_1.length) xs0_1) := Lib.hid oo1; clear oo1
  have IV0_1 := Lib.hid (own_wi OV0_1_4.out)
  have OV0_10_4 : Hid (OG w4 w3.heap.size (.slice VA0_10 xs0_10.length xs0_10.length) xs0_10) := Lib.hid oo10; clear oo10
  have IV0_10 := Lib.hid (own_wi OV0_10_4.out)
  have OV0_11_4 : Hid (OG w4 w3.heap.size (.slice VA0_11 xs0_11.length xs0_11.length) xs0_11) := Lib.hid oo11; clear oo11
  have IV0_11 := Lib.hid (own_wi OV0_11_4.out)
  have KVap0 := Lib.hid Vap0; clear Vap0
  have KVwi0 := Lib.hid Vwi0; clear Vwi0
  have KVwi1 := Lib.hid Vwi1; clear Vwi1
  have KVwi10 := Lib.hid Vwi10; clear Vwi10
  have KVwi11 := Lib.hid Vwi11; clear Vwi11
  have KVod0 := Lib.hid Vod0; clear Vod0
  have KVod1 := Lib.hid Vod1; clear Vod1
  have KVod2 := Lib.hid Vod2; clear Vod2
  have Hi0 : Hid ((Try.prog.info? 42).map (·.size) = some (#[.slice VA0_0 xs0_0.length xs0_0.length, .slice VA0_1 xs0_1.length xs0_1.length, .int .i64 n0_2, .bool n0_3, .int .i64 n0_4, .int .i64 n0_5, .int .i64 n0_6, .int .i64 n0_7, .int .i64 n0_8, .int .i64 n0_9, .slice VA0_10 xs0_10.length xs0_10.length, .slice VA0_11 xs0_11.length xs0_11.length] : Array Value).size) := Lib.hid (by kernel_rfl)
  have H10 : Hid ((#[.slice VA0_0 xs0_0.length xs0_0.length, .slice VA0_1 xs0_1.length xs0_1.length, .int .i64 n0_2, .bool n0_3, .int .i64 n0_4, .int .i64 n0_5, .int .i64 n0_6, .int .i64 n0_7, .int .i64 n0_8, .int .i64 n0_9, .slice VA0_10 xs0_10.length xs0_10.length, .slice VA0_11 xs0_11.length xs0_11.length] : Array Value).all (·.oneCell') = true) := Lib.hid (by simp [Value.oneCell'])
  have G5 : Hid (Below w4.heap.size w4 (w4.alloc (.cells #[.slice VA0_0 xs0_0.length xs0_0.length, .slice VA0_1 xs0_1.length xs0_1.length, .int .i64 n0_2, .bool n0_3, .int .i64 n0_4, .int .i64 n0_5, .int .i64 n0_6, .int .i64 n0_7, .int .i64 n0_8, .int .i64 n0_9, .slice VA0_10 xs0_10.length xs0_10.length, .slice VA0_11 xs0_11.length xs0_11.length] 42))) := Lib.hid ((Below.refl _ _).alloc (Nat.le_refl _) _)
  have SZ5 : Hid (w4.heap.size + 1 ≤ (w4.alloc (.cells #[.slice VA0_0 xs0_0.length xs0_0.length, .slice VA0_1 xs0_1.length xs0_1.length, .int .i64 n0_2, .bool n0_3, .int .i64 n0_4, .int .i64 n0_5, .int .i64 n0_6, .int .i64 n0_7, .int .i64 n0_8, .int .i64 n0_9, .slice VA0_10 xs0_10.length xs0_10.length, .slice VA0_11 xs0_11.length xs0_11.length] 42)).heap.size) := Lib.hid (by simp)
  have F0_0_5 : Hid ((w4.alloc (.cells #[.slice VA0_0 xs0_0.length xs0_0.length, .slice VA0_1 xs0_1.length xs0_1.length, .int .i64 n0_2, .bool n0_3, .int .i64 n0_4, .int .i64 n0_5, .int .i64 n0_6, .int .i64 n0_7, .int .i64 n0_8, .int .i64 n0_9, .slice VA0_10 xs0_10.length xs0_10.length, .slice VA0_11 xs0_11.length xs0_11.length] 42)).cell? ⟨w.heap.size, 0, none⟩ = some (.slice A0_0 xs0_0.length c0_0)) := Lib.hid (oldM G5.out F0_0_4.out)
  have F0_1_5 : Hid ((w4.alloc (.cells #[.slice VA0_0 xs0_0.length xs0_0.length, .slice VA0_1 xs0_1.length xs0_1.length, .int .i64 n0_2, .bool n0_3, .int .i64 n0_4, .int .i64 n0_5, .int .i64 n0_6, .int .i64 n0_7, .int .i64 n0_8, .int .i64 n0_9, .slice VA0_10 xs0_10.length xs0_10.length, .slice VA0_11 xs0_11.length xs0_11.length] 42)).cell? ⟨w.heap.size, 1, none⟩ = some (.slice A0_1 xs0_1.length c0_1)) := Lib.hid (oldM G5.out F0_1_4.out)
  have F0_2_5 : Hid ((w4.alloc (.cells #[.slice VA0_0 xs0_0.length xs0_0.length, .slice VA0_1 xs0_1.length xs0_1.length, .int .i64 n0_2, .bool n0_3, .int .i64 n0_4, .int .i64 n0_5, .int .i64 n0_6, .int .i64 n0_7, .int .i64 n0_8, .int .i64 n0_9, .slice VA0_10 xs0_10.length xs0_10.length, .slice VA0_11 xs0_11.length xs0_11.length] 42)).cell? ⟨w.heap.size, 2, none⟩ = some (.int .i64 n0_2)) := Lib.hid (oldM G5.out F0_2_4.out)
  have F0_3_5 : Hid ((w4.alloc (.cells #[.slice VA0_0 xs0_0.length xs0_0.length, .slice VA0_1 xs0_1.length xs0_1.length, .int .i64 n0_2, .bool n0_3, .int .i64 n0_4, .int .i64 n0_5, .int .i64 n0_6, .int .i64 n0_7, .int .i64 n0_8, .int .i64 n0_9, .slice VA0_10 xs0_10.length xs0_10.length, .slice VA0_11 xs0_11.length xs0_11.length] 42)).cell? ⟨w.heap.size, 3, none⟩ = some (.bool n0_3)) := Lib.hid (oldM G5.out F0_3_4.out)
  have F0_4_5 : Hid ((w4.alloc (.cells #[.slice VA0_0 xs0_0.length xs0_0.length, .slice VA0_1 xs0_1.length xs0_1.length, .int .i64 n0_2, .bool n0_3, .int .i64 n0_4, .int .i64 n0_5, .int .i64 n0_6, .int .i64 n0_7, .int .i64 n0_8, .int .i64 n0_9, .slice VA0_10 xs0_10.length xs0_10.length, .slice VA0_11 xs0_11.length xs0_11.length] 42)).cell? ⟨w.heap.size, 4, none⟩ = some (.int .i64 n0_4)) := Lib.hid (oldM G5.out F0_4_4.out)
  have F0_5_5 : Hid ((w4.alloc (.cells #[.slice VA0_0 xs0_0.length xs0_0.length, .slice VA0_1 xs0_1.length xs0_1.length, .int .i64 n0_2, .bool n0_3, .int .i64 n0_4, .int .i64 n0_5, .int .i64 n0_6, .int .i64 n0_7, .int .i64 n0_8, .int .i64 n0_9, .slice VA0_10 xs0_10.length xs0_10.length, .slice VA0_11 xs0_11.length xs0_11.length] 42)).cell? ⟨w.heap.size, 5, none⟩ = some (.int .i64 n0_5)) := Lib.hid (oldM G5.out F0_5_4.out)
  have F0_6_5 : Hid ((w4.alloc (.cells #[.slice VA0_0 xs0_0.length xs0_0.length, .slice VA0_1 xs0_1.length xs0_1.length, .int .i64 n0_2, .bool n0_3, .int .i64 n0_4, .int .i64 n0_5, .int .i64 n0_6, .int .i64 n0_7, .int .i64 n0_8, .int .i64 n0_9, .slice VA0_10 xs0_10.length xs0_10.length, .slice VA0_11 xs0_11.length xs0_11.length] 42)).cell? ⟨w.heap.size, 6, none⟩ = some (.int .i64 n0_6)) := Lib.hid (oldM G5.out F0_6_4.out)
  have F0_7_5 : Hid ((w4.alloc (.cells #[.slice VA0_0 xs0_0.length xs0_0.length, .slice VA0_1 xs0_1.length xs0_1.length, .int .i64 n0_2, .bool n0_3, .int .i64 n0_4, .int .i64 n0_5, .int .i64 n0_6, .int .i64 n0_7, .int .i64 n0_8, .int .i64 n0_9, .slice VA0_10 xs0_10.length xs0_10.length, .slice VA0_11 xs0_11.length xs0_11.length] 42)).cell? ⟨w.heap.size, 7, none⟩ = some (.int .i64 n0_7)) := Lib.hid (oldM G5.out F0_7_4.out)
  have F0_8_5 : Hid ((w4.alloc (.cells #[.slice VA0_0 xs0_0.length xs0_0.length, .slice VA0_1 xs0_1.length xs0_1.length, .int .i64 n0_2, .bool n0_3, .int .i64 n0_4, .int .i64 n0_5, .int .i64 n0_6, .int .i64 n0_7, .int .i64 n0_8, .int .i64 n0_9, .slice VA0_10 xs0_10.length xs0_10.length, .slice VA0_11 xs0_11.length xs0_11.length] 42)).cell? ⟨w.heap.size, 8, none⟩ = some (.int .i64 n0_8)) := Lib.hid (oldM G5.out F0_8_4.out)
  have F0_9_5 : Hid ((w4.alloc (.cells #[.slice VA0_0 xs0_0.length xs0_0.length, .slice VA0_1 xs0_1.length xs0_1.length, .int .i64 n0_2, .bool n0_3, .int .i64 n0_4, .int .i64 n0_5, .int .i64 n0_6, .int .i64 n0_7, .int .i64 n0_8, .int .i64 n0_9, .slice VA0_10 xs0_10.length xs0_10.length, .slice VA0_11 xs0_11.length xs0_11.length] 42)).cell? ⟨w.heap.size, 9, none⟩ = some (.int .i64 n0_9)) := Lib.hid (oldM G5.out F0_9_4.out)
  have F0_10_5 : Hid ((w4.alloc (.cells #[.slice VA0_0 xs0_0.length xs0_0.length, .slice VA0_1 xs0_1.length xs0_1.length, .int .i64 n0_2, .bool n0_3, .int .i64 n0_4, .int .i64 n0_5, .int .i64 n0_6, .int .i64 n0_7, .int .i64 n0_8, .int .i64 n0_9, .slice VA0_10 xs0_10.length xs0_10.length, .slice VA0_11 xs0_11.length xs0_11.length] 42)).cell? ⟨w.heap.size, 10, none⟩ = some (.slice A0_10 xs0_10.length c0_10)) := Lib.hid (oldM G5.out F0_10_4.out)
  have F0_11_5 : Hid ((w4.alloc (.cells #[.slice VA0_0 xs0_0.length xs0_0.length, .slice VA0_1 xs0_1.length xs0_1.length, .int .i64 n0_2, .bool n0_3, .int .i64 n0_4, .int .i64 n0_5, .int .i64 n0_6, .int .i64 n0_7, .int .i64 n0_8, .int .i64 n0_9, .slice VA0_10 xs0_10.length xs0_10.length, .slice VA0_11 xs0_11.length xs0_11.length] 42)).cell? ⟨w.heap.size, 11, none⟩ = some (.slice A0_11 xs0_11.length c0_11)) := Lib.hid (oldM G5.out F0_11_4.out)
  have OZ_5 : Hid (OR (w4.alloc (.cells #[.slice VA0_0 xs0_0.length xs0_0.length, .slice VA0_1 xs0_1.length xs0_1.length, .int .i64 n0_2, .bool n0_3, .int .i64 n0_4, .int .i64 n0_5, .int .i64 n0_6, .int .i64 n0_7, .int .i64 n0_8, .int .i64 n0_9, .slice VA0_10 xs0_10.length xs0_10.length, .slice VA0_11 xs0_11.length xs0_11.length] 42)) w2.heap.size (.slice ZA D.length Zc) D) := Lib.hid (own_bel OZ_4.out G5.out)
  have OV0_0_5 : Hid (OT (w4.alloc (.cells #[.slice VA0_0 xs0_0.length xs0_0.length, .slice VA0_1 xs0_1.length xs0_1.length, .int .i64 n0_2, .bool n0_3, .int .i64 n0_4, .int .i64 n0_5, .int .i64 n0_6, .int .i64 n0_7, .int .i64 n0_8, .int .i64 n0_9, .slice VA0_10 xs0_10.length xs0_10.length, .slice VA0_11 xs0_11.length xs0_11.length] 42)) w3.heap.size (.slice VA0_0 xs0_0.length xs0_0.length) xs0_0) := Lib.hid (own_bel OV0_0_4.out G5.out)
  have OV0_1_5 : Hid (OU (w4.alloc (.cells #[.slice VA0_0 xs0_0.length xs0_0.length, .slice VA0_1 xs0_1.length xs0_1.length, .int .i64 n0_2, .bool n0_3, .int .i64 n0_4, .int .i64 n0_5, .int .i64 n0_6, .int .i64 n0_7, .int .i64 n0_8, .int .i64 n0_9, .slice VA0_10 xs0_10.length xs0_10.length, .slice VA0_11 xs0_11.length xs0_11.length] 42)) w3.heap.size (.slice VA0_1 xs0_1.length xs0_1.length) xs0_1) := Lib.hid (own_bel OV0_1_4.out G5.out)
  have OV0_10_5 : Hid (OG (w4.alloc (.cells #[.slice VA0_0 xs0_0.length xs0_0.length, .slice VA0_1 xs0_1.length xs0_1.length, .int .i64 n0_2, .bool n0_3, .int .i64 n0_4, .int .i64 n0_5, .int .i64 n0_6, .int .i64 n0_7, .int .i64 n0_8, .int .i64 n0_9, .slice VA0_10 xs0_10.length xs0_10.length, .slice VA0_11 xs0_11.length xs0_11.length] 42)) w3.heap.size (.slice VA0_10 xs0_10.length xs0_10.length) xs0_10) := Lib.hid (own_bel OV0_10_4.out G5.out)
  have OV0_11_5 : Hid (OG (w4.alloc (.cells #[.slice VA0_0 xs0_0.length xs0_0.length, .slice VA0_1 xs0_1.length xs0_1.length, .int .i64 n0_2, .bool n0_3, .int .i64 n0_4, .int .i64 n0_5, .int .i64 n0_6, .int .i64 n0_7, .int .i64 n0_8, .int .i64 n0_9, .slice VA0_10 xs0_10.length xs0_10.length, .slice VA0_11 xs0_11.length xs0_11.length] 42)) w3.heap.size (.slice VA0_11 xs0_11.length xs0_11.length) xs0_11) := Lib.hid (own_bel OV0_11_4.out G5.out)
  have HB5 : Hid (Below w.heap.size w (w4.alloc (.cells #[.slice VA0_0 xs0_0.length xs0_0.length, .slice VA0_1 xs0_1.length xs0_1.length, .int .i64 n0_2, .bool n0_3, .int .i64 n0_4, .int .i64 n0_5, .int .i64 n0_6, .int .i64 n0_7, .int .i64 n0_8, .int .i64 n0_9, .slice VA0_10 xs0_10.length xs0_10.length, .slice VA0_11 xs0_11.length xs0_11.length] 42))) := Lib.hid (HB4.out.trans (G5.out.mono HB4.out.size))
  have K0_0_5 : Hid ((w4.alloc (.cells #[.slice VA0_0 xs0_0.length xs0_0.length, .slice VA0_1 xs0_1.length xs0_1.length, .int .i64 n0_2, .bool n0_3, .int .i64 n0_4, .int .i64 n0_5, .int .i64 n0_6, .int .i64 n0_7, .int .i64 n0_8, .int .i64 n0_9, .slice VA0_10 xs0_10.length xs0_10.length, .slice VA0_11 xs0_11.length xs0_11.length] 42)).cell? ⟨w4.heap.size, 0, none⟩ = some (.slice VA0_0 xs0_0.length xs0_0.length)) := Lib.hid (by rw [cell_of_row _ _ _ _ _ _ (heap_alloc_new w4 _)]; rfl)
  have K0_1_5 : Hid ((w4.alloc (.cells #[.slice VA0_0 xs0_0.length xs0_0.length, .slice VA0_1 xs0_1.length xs0_1.length, .int .i64 n0_2, .bool n0_3, .int .i64 n0_4, .int .i64 n0_5, .int .i64 n0_6, .int .i64 n0_7, .int .i64 n0_8, .int .i64 n0_9, .slice VA0_10 xs0_10.length xs0_10.length, .slice VA0_11 xs0_11.length xs0_11.length] 42)).cell? ⟨w4.heap.size, 1, none⟩ = some (.slice VA0_1 xs0_1.length xs0_1.length)) := Lib.hid (by rw [cell_of_row _ _ _ _ _ _ (heap_alloc_new w4 _)]; rfl)
  have K0_2_5 : Hid ((w4.alloc (.cells #[.slice VA0_0 xs0_0.length xs0_0.length, .slice VA0_1 xs0_1.length xs0_1.length, .int .i64 n0_2, .bool n0_3, .int .i64 n0_4, .int .i64 n0_5, .int .i64 n0_6, .int .i64 n0_7, .int .i64 n0_8, .int .i64 n0_9, .slice VA0_10 xs0_10.length xs0_10.length, .slice VA0_11 xs0_11.length xs0_11.length] 42)).cell? ⟨w4.heap.size, 2, none⟩ = some (.int .i64 n0_2)) := Lib.hid (by rw [cell_of_row _ _ _ _ _ _ (heap_alloc_new w4 _)]; rfl)
  have K0_3_5 : Hid ((w4.alloc (.cells #[.slice VA0_0 xs0_0.length xs0_0.length, .slice VA0_1 xs0_1.length xs0_1.length, .int .i64 n0_2, .bool n0_3, .int .i64 n0_4, .int .i64 n0_5, .int .i64 n0_6, .int .i64 n0_7, .int .i64 n0_8, .int .i64 n0_9, .slice VA0_10 xs0_10.length xs0_10.length, .slice VA0_11 xs0_11.length xs0_11.length] 42)).cell? ⟨w4.heap.size, 3, none⟩ = some (.bool n0_3)) := Lib.hid (by rw [cell_of_row _ _ _ _ _ _ (heap_alloc_new w4 _)]; rfl)
  have K0_4_5 : Hid ((w4.alloc (.cells #[.slice VA0_0 xs0_0.length xs0_0.length, .slice VA0_1 xs0_1.length xs0_1.length, .int .i64 n0_2, .bool n0_3, .int .i64 n0_4, .int .i64 n0_5, .int .i64 n0_6, .int .i64 n0_7, .int .i64 n0_8, .int .i64 n0_9, .slice VA0_10 xs0_10.length xs0_10.length, .slice VA0_11 xs0_11.length xs0_11.length] 42)).cell? ⟨w4.heap.size, 4, none⟩ = some (.int .i64 n0_4)) := Lib.hid (by rw [cell_of_row _ _ _ _ _ _ (heap_alloc_new w4 _)]; rfl)
  have K0_5_5 : Hid ((w4.alloc (.cells #[.slice VA0_0 xs0_0.length xs0_0.length, .slice VA0_1 xs0_1.length xs0_1.length, .int .i64 n0_2, .bool n0_3, .int .i64 n0_4, .int .i64 n0_5, .int .i64 n0_6, .int .i64 n0_7, .int .i64 n0_8, .int .i64 n0_9, .slice VA0_10 xs0_10.length xs0_10.length, .slice VA0_11 xs0_11.length xs0_11.length] 42)).cell? ⟨w4.heap.size, 5, none⟩ = some (.int .i64 n0_5)) := Lib.hid (by rw [cell_of_row _ _ _ _ _ _ (heap_alloc_new w4 _)]; rfl)
  have K0_6_5 : Hid ((w4.alloc (.cells #[.slice VA0_0 xs0_0.length xs0_0.length, .slice VA0_1 xs0_1.length xs0_1.length, .int .i64 n0_2, .bool n0_3, .int .i64 n0_4, .int .i64 n0_5, .int .i64 n0_6, .int .i64 n0_7, .int .i64 n0_8, .int .i64 n0_9, .slice VA0_10 xs0_10.length xs0_10.length, .slice VA0_11 xs0_11.length xs0_11.length] 42)).cell? ⟨w4.heap.size, 6, none⟩ = some (.int .i64 n0_6)) := Lib.hid (by rw [cell_of_row _ _ _ _ _ _ (heap_alloc_new w4 _)]; rfl)
  have K0_7_5 : Hid ((w4.alloc (.cells #[.slice VA0_0 xs0_0.length xs0_0.length, .slice VA0_1 xs0_1.length xs0_1.length, .int .i64 n0_2, .bool n0_3, .int .i64 n0_4, .int .i64 n0_5, .int .i64 n0_6, .int .i64 n0_7, .int .i64 n0_8, .int .i64 n0_9, .slice VA0_10 xs0_10.length xs0_10.length, .slice VA0_11 xs0_11.length xs0_11.length] 42)).cell? ⟨w4.heap.size, 7, none⟩ = some (.int .i64 n0_7)) := Lib.hid (by rw [cell_of_row _ _ _ _ _ _ (heap_alloc_new w4 _)]; rfl)
  have K0_8_5 : Hid ((w4.alloc (.cells #[.slice VA0_0 xs0_0.length xs0_0.length, .slice VA0_1 xs0_1.length xs0_1.length, .int .i64 n0_2, .bool n0_3, .int .i64 n0_4, .int .i64 n0_5, .int .i64 n0_6, .int .i64 n0_7, .int .i64 n0_8, .int .i64 n0_9, .slice VA0_10 xs0_10.length xs0_10.length, .slice VA0_11 xs0_11.length xs0_11.length] 42)).cell? ⟨w4.heap.size, 8, none⟩ = some (.int .i64 n0_8)) := Lib.hid (by rw [cell_of_row _ _ _ _ _ _ (heap_alloc_new w4 _)]; rfl)
  have K0_9_5 : Hid ((w4.alloc (.cells #[.slice VA0_0 xs0_0.length xs0_0.length, .slice VA0_1 xs0_1.length xs0_1.length, .int .i64 n0_2, .bool n0_3, .int .i64 n0_4, .int .i64 n0_5, .int .i64 n0_6, .int .i64 n0_7, .int .i64 n0_8, .int .i64 n0_9, .slice VA0_10 xs0_10.length xs0_10.length, .slice VA0_11 xs0_11.length xs0_11.length] 42)).cell? ⟨w4.heap.size, 9, none⟩ = some (.int .i64 n0_9)) := Lib.hid (by rw [cell_of_row _ _ _ _ _ _ (heap_alloc_new w4 _)]; rfl)
  have K0_10_5 : Hid ((w4.alloc (.cells #[.slice VA0_0 xs0_0.length xs0_0.length, .slice VA0_1 xs0_1.length xs0_1.length, .int .i64 n0_2, .bool n0_3, .int .i64 n0_4, .int .i64 n0_5, .int .i64 n0_6, .int .i64 n0_7, .int .i64 n0_8, .int .i64 n0_9, .slice VA0_10 xs0_10.length xs0_10.length, .slice VA0_11 xs0_11.length xs0_11.length] 42)).cell? ⟨w4.heap.size, 10, none⟩ = some (.slice VA0_10 xs0_10.length xs0_10.length)) := Lib.hid (by rw [cell_of_row _ _ _ _ _ _ (heap_alloc_new w4 _)]; rfl)
  have K0_11_5 : Hid ((w4.alloc (.cells #[.slice VA0_0 xs0_0.length xs0_0.length, .slice VA0_1 xs0_1.length xs0_1.length, .int .i64 n0_2, .bool n0_3, .int .i64 n0_4, .int .i64 n0_5, .int .i64 n0_6, .int .i64 n0_7, .int .i64 n0_8, .int .i64 n0_9, .slice VA0_10 xs0_10.length xs0_10.length, .slice VA0_11 xs0_11.length xs0_11.length] 42)).cell? ⟨w4.heap.size, 11, none⟩ = some (.slice VA0_11 xs0_11.length xs0_11.length)) := Lib.hid (by rw [cell_of_row _ _ _ _ _ _ (heap_alloc_new w4 _)]; rfl)
  have qF0_0 := F0_0_5.out
  have qF0_1 := F0_1_5.out
  have qF0_2 := F0_2_5.out
  have qF0_3 := F0_3_5.out
  have qF0_4 := F0_4_5.out
  have qF0_5 := F0_5_5.out
  have qF0_6 := F0_6_5.out
  have qF0_7 := F0_7_5.out
  have qF0_8 := F0_8_5.out
  have qF0_9 := F0_9_5.out
  have qF0_10 := F0_10_5.out
  have qF0_11 := F0_11_5.out
  have qK0_0 := K0_0_5.out
  have qK0_1 := K0_1_5.out
  have qK0_2 := K0_2_5.out
  have qK0_3 := K0_3_5.out
  have qK0_4 := K0_4_5.out
  have qK0_5 := K0_5_5.out
  have qK0_6 := K0_6_5.out
  have qK0_7 := K0_7_5.out
  have qK0_8 := K0_8_5.out
  have qK0_9 := K0_9_5.out
  have qK0_10 := K0_10_5.out
  have qK0_11 := K0_11_5.out
  go_wp2_with (refine wpList_store_last rfl 42 (.tmp 5) (.tmp 20) rfl #[.slice VA0_0 xs0_0.length xs0_0.length, .slice VA0_1 xs0_1.length xs0_1.length, .int .i64 n0_2, .bool n0_3, .int .i64 n0_4, .int .i64 n0_5, .int .i64 n0_6, .int .i64 n0_7, .int .i64 n0_8, .int .i64 n0_9, .slice VA0_10 xs0_10.length xs0_10.length, .slice VA0_11 xs0_11.length xs0_11.length] _ 42 rfl rfl Hi0.out rfl H10.out ?_)
  clear qF0_0 qF0_1 qF0_2 qF0_3 qF0_4 qF0_5 qF0_6 qF0_7 qF0_8 qF0_9 qF0_10 qF0_11 qK0_0 qK0_1 qK0_2 qK0_3 qK0_4 qK0_5 qK0_6 qK0_7 qK0_8 qK0_9 qK0_10 qK0_11
  generalize (w4.alloc (.cells #[.slice VA0_0 xs0_0.length xs0_0.length, .slice VA0_1 xs0_1.length xs0_1.length, .int .i64 n0_2, .bool n0_3, .int .i64 n0_4, .int .i64 n0_5, .int .i64 n0_6, .int .i64 n0_7, .int .i64 n0_8, .int .i64 n0_9, .slice VA0_10 xs0_10.length xs0_10.length, .slice VA0_11 xs0_11.length xs0_11.length] 42)) = w5 at *
  refine (P0.out w5 _ _ _ _ (OV0_0_5.out.rit H0_0.out.inT) (OV0_1_5.out.riu H0_1.out.wf) (OV0_10_5.out.riu H0_10.out.wf) (OV0_11_5.out.riu H0_11.out.wf)).mono ?_
  rintro e w6 ⟨Yv, rfl, oa, g⟩
  have G6 := Lib.hid g; have SZ6 : Hid (w5.heap.size ≤ w6.heap.size) := Lib.hid g.size; clear g
  have F0_0_6 : Hid (w6.cell? ⟨w.heap.size, 0, none⟩ = some (.slice A0_0 xs0_0.length c0_0)) := Lib.hid (oldM G6.out F0_0_5.out)
  have F0_1_6 : Hid (w6.cell? ⟨w.heap.size, 1, none⟩ = some (.slice A0_1 xs0_1.length c0_1)) := Lib.hid (oldM G6.out F0_1_5.out)
  have F0_2_6 : Hid (w6.cell? ⟨w.heap.size, 2, none⟩ = some (.int .i64 n0_2)) := Lib.hid (oldM G6.out F0_2_5.out)
  have F0_3_6 : Hid (w6.cell? ⟨w.heap.size, 3, none⟩ = some (.bool n0_3)) := Lib.hid (oldM G6.out F0_3_5.out)
  have F0_4_6 : Hid (w6.cell? ⟨w.heap.size, 4, none⟩ = some (.int .i64 n0_4)) := Lib.hid (oldM G6.out F0_4_5.out)
  have F0_5_6 : Hid (w6.cell? ⟨w.heap.size, 5, none⟩ = some (.int .i64 n0_5)) := Lib.hid (oldM G6.out F0_5_5.out)
  have F0_6_6 : Hid (w6.cell? ⟨w.heap.size, 6, none⟩ = some (.int .i64 n0_6)) := Lib.hid (oldM G6.out F0_6_5.out)
  have F0_7_6 : Hid (w6.cell? ⟨w.heap.size, 7, none⟩ = some (.int .i64 n0_7)) := Lib.hid (oldM G6.out F0_7_5.out)
  have F0_8_6 : Hid (w6.cell? ⟨w.heap.size, 8, none⟩ = some (.int .i64 n0_8)) := Lib.hid (oldM G6.out F0_8_5.out)
  have F0_9_6 : Hid (w6.cell? ⟨w.heap.size, 9, none⟩ = some (.int .i64 n0_9)) := Lib.hid (oldM G6.out F0_9_5.out)
  have F0_10_6 : Hid (w6.cell? ⟨w.heap.size, 10, none⟩ = some (.slice A0_10 xs0_10.length c0_10)) := Lib.hid (oldM G6.out F0_10_5.out)
  have F0_11_6 : Hid (w6.cell? ⟨w.heap.size, 11, none⟩ = some (.slice A0_11 xs0_11.length c0_11)) := Lib.hid (oldM G6.out F0_11_5.out)
  have OZ_6 : Hid (OR w6 w2.heap.size (.slice ZA D.length Zc) D) := Lib.hid (own_bel OZ_5.out G6.out)
  have OV0_0_6 : Hid (OT w6 w3.heap.size (.slice VA0_0 xs0_0.length xs0_0.length) xs0_0) := Lib.hid (own_bel OV0_0_5.out G6.out)
  have OV0_1_6 : Hid (OU w6 w3.heap.size (.slice VA0_1 xs0_1.length xs0_1.length) xs0_1) := Lib.hid (own_bel OV0_1_5.out G6.out)
  have OV0_10_6 : Hid (OG w6 w3.heap.size (.slice VA0_10 xs0_10.length xs0_10.length) xs0_10) := Lib.hid (own_bel OV0_10_5.out G6.out)
  have OV0_11_6 : Hid (OG w6 w3.heap.size (.slice VA0_11 xs0_11.length xs0_11.length) xs0_11) := Lib.hid (own_bel OV0_11_5.out G6.out)
  have K0_0_6 : Hid (w6.cell? ⟨w4.heap.size, 0, none⟩ = some (.slice VA0_0 xs0_0.length xs0_0.length)) := Lib.hid (oldM G6.out K0_0_5.out)
  have K0_1_6 : Hid (w6.cell? ⟨w4.heap.size, 1, none⟩ = some (.slice VA0_1 xs0_1.length xs0_1.length)) := Lib.hid (oldM G6.out K0_1_5.out)
  have K0_2_6 : Hid (w6.cell? ⟨w4.heap.size, 2, none⟩ = some (.int .i64 n0_2)) := Lib.hid (oldM G6.out K0_2_5.out)
  have K0_3_6 : Hid (w6.cell? ⟨w4.heap.size, 3, none⟩ = some (.bool n0_3)) := Lib.hid (oldM G6.out K0_3_5.out)
  have K0_4_6 : Hid (w6.cell? ⟨w4.heap.size, 4, none⟩ = some (.int .i64 n0_4)) := Lib.hid (oldM G6.out K0_4_5.out)
  have K0_5_6 : Hid (w6.cell? ⟨w4.heap.size, 5, none⟩ = some (.int .i64 n0_5)) := Lib.hid (oldM G6.out K0_5_5.out)
  have K0_6_6 : Hid (w6.cell? ⟨w4.heap.size, 6, none⟩ = some (.int .i64 n0_6)) := Lib.hid (oldM G6.out K0_6_5.out)
  have K0_7_6 : Hid (w6.cell? ⟨w4.heap.size, 7, none⟩ = some (.int .i64 n0_7)) := Lib.hid (oldM G6.out K0_7_5.out)
  have K0_8_6 : Hid (w6.cell? ⟨w4.heap.size, 8, none⟩ = some (.int .i64 n0_8)) := Lib.hid (oldM G6.out K0_8_5.out)
  have K0_9_6 : Hid (w6.cell? ⟨w4.heap.size, 9, none⟩ = some (.int .i64 n0_9)) := Lib.hid (oldM G6.out K0_9_5.out)
  have K0_10_6 : Hid (w6.cell? ⟨w4.heap.size, 10, none⟩ = some (.slice VA0_10 xs0_10.length xs0_10.length)) := Lib.hid (oldM G6.out K0_10_5.out)
  have K0_11_6 : Hid (w6.cell? ⟨w4.heap.size, 11, none⟩ = some (.slice VA0_11 xs0_11.length xs0_11.length)) := Lib.hid (oldM G6.out K0_11_5.out)
  have HB6 : Hid (Below w.heap.size w w6) := Lib.hid (HB5.out.trans (G6.out.mono HB5.out.size))
  obtain ⟨YA, Yc, rfl⟩ := OR.opened oa
  have OY_6 : Hid (OR w6 w5.heap.size (.slice YA D.length Yc) D) := Lib.hid oa; clear oa
  have IY := Lib.hid (own_wi OY_6.out)
  have qF0_0 := F0_0_6.out
  have qF0_1 := F0_1_6.out
  have qF0_2 := F0_2_6.out
  have qF0_3 := F0_3_6.out
  have qF0_4 := F0_4_6.out
  have qF0_5 := F0_5_6.out
  have qF0_6 := F0_6_6.out
  have qF0_7 := F0_7_6.out
  have qF0_8 := F0_8_6.out
  have qF0_9 := F0_9_6.out
  have qF0_10 := F0_10_6.out
  have qF0_11 := F0_11_6.out
  have qK0_0 := K0_0_6.out
  have qK0_1 := K0_1_6.out
  have qK0_2 := K0_2_6.out
  have qK0_3 := K0_3_6.out
  have qK0_4 := K0_4_6.out
  have qK0_5 := K0_5_6.out
  have qK0_6 := K0_6_6.out
  have qK0_7 := K0_7_6.out
  have qK0_8 := K0_8_6.out
  have qK0_9 := K0_9_6.out
  have qK0_10 := K0_10_6.out
  have qK0_11 := K0_11_6.out
  go_wp2_with fail
  clear qF0_0 qF0_1 qF0_2 qF0_3 qF0_4 qF0_5 qF0_6 qF0_7 qF0_8 qF0_9 qF0_10 qF0_11 qK0_0 qK0_1 qK0_2 qK0_3 qK0_4 qK0_5 qK0_6 qK0_7 qK0_8 qK0_9 qK0_10 qK0_11
  refine (eqRuns_any (OY_6.out.ri OKD.out.1) (OZ_6.out.ri OKD.out.1) (Nat.le_refl _)).mono ?_
  rintro e w7 ⟨rfl, g⟩
  have G7 := Lib.hid g; have SZ7 : Hid (w6.heap.size ≤ w7.heap.size) := Lib.hid g.size; clear g
  have F0_0_7 : Hid (w7.cell? ⟨w.heap.size, 0, none⟩ = some (.slice A0_0 xs0_0.length c0_0)) := Lib.hid (oldM G7.out F0_0_6.out)
  have F0_1_7 : Hid (w7.cell? ⟨w.heap.size, 1, none⟩ = some (.slice A0_1 xs0_1.length c0_1)) := Lib.hid (oldM G7.out F0_1_6.out)
  have F0_2_7 : Hid (w7.cell? ⟨w.heap.size, 2, none⟩ = some (.int .i64 n0_2)) := Lib.hid (oldM G7.out F0_2_6.out)
  have F0_3_7 : Hid (w7.cell? ⟨w.heap.size, 3, none⟩ = some (.bool n0_3)) := Lib.hid (oldM G7.out F0_3_6.out)
  have F0_4_7 : Hid (w7.cell? ⟨w.heap.size, 4, none⟩ = some (.int .i64 n0_4)) := Lib.hid (oldM G7.out F0_4_6.out)
  have F0_5_7 : Hid (w7.cell? ⟨w.heap.size, 5, none⟩ = some (.int .i64 n0_5)) := Lib.hid (oldM G7.out F0_5_6.out)
  have F0_6_7 : Hid (w7.cell? ⟨w.heap.size, 6, none⟩ = some (.int .i64 n0_6)) := Lib.hid (oldM G7.out F0_6_6.out)
  have F0_7_7 : Hid (w7.cell? ⟨w.heap.size, 7, none⟩ = some (.int .i64 n0_7)) := Lib.hid (oldM G7.out F0_7_6.out)
  have F0_8_7 : Hid (w7.cell? ⟨w.heap.size, 8, none⟩ = some (.int .i64 n0_8)) := Lib.hid (oldM G7.out F0_8_6.out)
  have F0_9_7 : Hid (w7.cell? ⟨w.heap.size, 9, none⟩ = some (.int .i64 n0_9)) := Lib.hid (oldM G7.out F0_9_6.out)
  have F0_10_7 : Hid (w7.cell? ⟨w.heap.size, 10, none⟩ = some (.slice A0_10 xs0_10.length c0_10)) := Lib.hid (oldM G7.out F0_10_6.out)
  have F0_11_7 : Hid (w7.cell? ⟨w.heap.size, 11, none⟩ = some (.slice A0_11 xs0_11.length c0_11)) := Lib.hid (oldM G7.out F0_11_6.out)
  have OZ_7 : Hid (OR w7 w2.heap.size (.slice ZA D.length Zc) D) := Lib.hid (own_bel OZ_6.out G7.out)
  have OV0_0_7 : Hid (OT w7 w3.heap.size (.slice VA0_0 xs0_0.length xs0_0.length) xs0_0) := Lib.hid (own_bel OV0_0_6.out G7.out)
  have OV0_1_7 : Hid (OU w7 w3.heap.size (.slice VA0_1 xs0_1.length xs0_1.length) xs0_1) := Lib.hid (own_bel OV0_1_6.out G7.out)
  have OV0_10_7 : Hid (OG w7 w3.heap.size (.slice VA0_10 xs0_10.length xs0_10.length) xs0_10) := Lib.hid (own_bel OV0_10_6.out G7.out)
  have OV0_11_7 : Hid (OG w7 w3.heap.size (.slice VA0_11 xs0_11.length xs0_11.length) xs0_11) := Lib.hid (own_bel OV0_11_6.out G7.out)
  have K0_0_7 : Hid (w7.cell? ⟨w4.heap.size, 0, none⟩ = some (.slice VA0_0 xs0_0.length xs0_0.length)) := Lib.hid (oldM G7.out K0_0_6.out)
  have K0_1_7 : Hid (w7.cell? ⟨w4.heap.size, 1, none⟩ = some (.slice VA0_1 xs0_1.length xs0_1.length)) := Lib.hid (oldM G7.out K0_1_6.out)
  have K0_2_7 : Hid (w7.cell? ⟨w4.heap.size, 2, none⟩ = some (.int .i64 n0_2)) := Lib.hid (oldM G7.out K0_2_6.out)
  have K0_3_7 : Hid (w7.cell? ⟨w4.heap.size, 3, none⟩ = some (.bool n0_3)) := Lib.hid (oldM G7.out K0_3_6.out)
  have K0_4_7 : Hid (w7.cell? ⟨w4.heap.size, 4, none⟩ = some (.int .i64 n0_4)) := Lib.hid (oldM G7.out K0_4_6.out)
  have K0_5_7 : Hid (w7.cell? ⟨w4.heap.size, 5, none⟩ = some (.int .i64 n0_5)) := Lib.hid (oldM G7.out K0_5_6.out)
  have K0_6_7 : Hid (w7.cell? ⟨w4.heap.size, 6, none⟩ = some (.int .i64 n0_6)) := Lib.hid (oldM G7.out K0_6_6.out)
  have K0_7_7 : Hid (w7.cell? ⟨w4.heap.size, 7, none⟩ = some (.int .i64 n0_7)) := Lib.hid (oldM G7.out K0_7_6.out)
  have K0_8_7 : Hid (w7.cell? ⟨w4.heap.size, 8, none⟩ = some (.int .i64 n0_8)) := Lib.hid (oldM G7.out K0_8_6.out)
  have K0_9_7 : Hid (w7.cell? ⟨w4.heap.size, 9, none⟩ = some (.int .i64 n0_9)) := Lib.hid (oldM G7.out K0_9_6.out)
  have K0_10_7 : Hid (w7.cell? ⟨w4.heap.size, 10, none⟩ = some (.slice VA0_10 xs0_10.length xs0_10.length)) := Lib.hid (oldM G7.out K0_10_6.out)
  have K0_11_7 : Hid (w7.cell? ⟨w4.heap.size, 11, none⟩ = some (.slice VA0_11 xs0_11.length xs0_11.length)) := Lib.hid (oldM G7.out K0_11_6.out)
  have OY_7 : Hid (OR w7 w5.heap.size (.slice YA D.length Yc) D) := Lib.hid (own_bel OY_6.out G7.out)
  have HB7 : Hid (Below w.heap.size w w7) := Lib.hid (HB6.out.trans (G7.out.mono HB6.out.size))
  have HSd : Hid (∀ W, Below w7.heap.size w7 W → W.cell? ⟨w.heap.size, 0, none⟩ = some (.slice A0_0 xs0_0.length c0_0) ∧ W.cell? ⟨w.heap.size, 1, none⟩ = some (.slice A0_1 xs0_1.length c0_1) ∧ W.cell? ⟨w.heap.size, 2, none⟩ = some (.int .i64 n0_2) ∧ W.cell? ⟨w.heap.size, 3, none⟩ = some (.bool n0_3) ∧ W.cell? ⟨w.heap.size, 4, none⟩ = some (.int .i64 n0_4) ∧ W.cell? ⟨w.heap.size, 5, none⟩ = some (.int .i64 n0_5) ∧ W.cell? ⟨w.heap.size, 6, none⟩ = some (.int .i64 n0_6) ∧ W.cell? ⟨w.heap.size, 7, none⟩ = some (.int .i64 n0_7) ∧ W.cell? ⟨w.heap.size, 8, none⟩ = some (.int .i64 n0_8) ∧ W.cell? ⟨w.heap.size, 9, none⟩ = some (.int .i64 n0_9) ∧ W.cell? ⟨w.heap.size, 10, none⟩ = some (.slice A0_10 xs0_10.length c0_10) ∧ W.cell? ⟨w.heap.size, 11, none⟩ = some (.slice A0_11 xs0_11.length c0_11) ∧ W.cell? ⟨w4.heap.size, 0, none⟩ = some (.slice VA0_0 xs0_0.length xs0_0.length) ∧ W.cell? ⟨w4.heap.size, 1, none⟩ = some (.slice VA0_1 xs0_1.length xs0_1.length) ∧ W.cell? ⟨w4.heap.size, 2, none⟩ = some (.int .i64 n0_2) ∧ W.cell? ⟨w4.heap.size, 3, none⟩ = some (.bool n0_3) ∧ W.cell? ⟨w4.heap.size, 4, none⟩ = some (.int .i64 n0_4) ∧ W.cell? ⟨w4.heap.size, 5, none⟩ = some (.int .i64 n0_5) ∧ W.cell? ⟨w4.heap.size, 6, none⟩ = some (.int .i64 n0_6) ∧ W.cell? ⟨w4.heap.size, 7, none⟩ = some (.int .i64 n0_7) ∧ W.cell? ⟨w4.heap.size, 8, none⟩ = some (.int .i64 n0_8) ∧ W.cell? ⟨w4.heap.size, 9, none⟩ = some (.int .i64 n0_9) ∧ W.cell? ⟨w4.heap.size, 10, none⟩ = some (.slice VA0_10 xs0_10.length xs0_10.length) ∧ W.cell? ⟨w4.heap.size, 11, none⟩ = some (.slice VA0_11 xs0_11.length xs0_11.length)) := Lib.hid (fun W hW => ⟨oldM hW F0_0_7.out, oldM hW F0_1_7.out, oldM hW F0_2_7.out, oldM hW F0_3_7.out, oldM hW F0_4_7.out, oldM hW F0_5_7.out, oldM hW F0_6_7.out, oldM hW F0_7_7.out, oldM hW F0_8_7.out, oldM hW F0_9_7.out, oldM hW F0_10_7.out, oldM hW F0_11_7.out, oldM hW K0_0_7.out, oldM hW K0_1_7.out, oldM hW K0_2_7.out, oldM hW K0_3_7.out, oldM hW K0_4_7.out, oldM hW K0_5_7.out, oldM hW K0_6_7.out, oldM hW K0_7_7.out, oldM hW K0_8_7.out, oldM hW K0_9_7.out, oldM hW K0_10_7.out, oldM hW K0_11_7.out⟩)
  have HDd : Hid (Below w7.heap.size w7 w7.drew) := Lib.hid (Below.refl _ _).drew
  have HEd : Hid (Below w.heap.size w w7.drew) := Lib.hid (HB7.out.trans (HDd.out.mono HB7.out.size))
  have qF0_0 := F0_0_7.out
  have qF0_1 := F0_1_7.out
  have qF0_2 := F0_2_7.out
  have qF0_3 := F0_3_7.out
  have qF0_4 := F0_4_7.out
  have qF0_5 := F0_5_7.out
  have qF0_6 := F0_6_7.out
  have qF0_7 := F0_7_7.out
  have qF0_8 := F0_8_7.out
  have qF0_9 := F0_9_7.out
  have qF0_10 := F0_10_7.out
  have qF0_11 := F0_11_7.out
  have qK0_0 := K0_0_7.out
  have qK0_1 := K0_1_7.out
  have qK0_2 := K0_2_7.out
  have qK0_3 := K0_3_7.out
  have qK0_4 := K0_4_7.out
  have qK0_5 := K0_5_7.out
  have qK0_6 := K0_6_7.out
  have qK0_7 := K0_7_7.out
  have qK0_8 := K0_8_7.out
  have qK0_9 := K0_9_7.out
  have qK0_10 := K0_10_7.out
  have qK0_11 := K0_11_7.out
  go_wp2
  clear qF0_0 qF0_1 qF0_2 qF0_3 qF0_4 qF0_5 qF0_6 qF0_7 qF0_8 qF0_9 qF0_10 qF0_11 qK0_0 qK0_1 qK0_2 qK0_3 qK0_4 qK0_5 qK0_6 qK0_7 qK0_8 qK0_9 qK0_10 qK0_11
  go_region_held3 (fun W => W.cell? ⟨w.heap.size, 0, none⟩ = some (.slice A0_0 xs0_0.length c0_0) ∧ W.cell? ⟨w.heap.size, 1, none⟩ = some (.slice A0_1 xs0_1.length c0_1) ∧ W.cell? ⟨w.heap.size, 2, none⟩ = some (.int .i64 n0_2) ∧ W.cell? ⟨w.heap.size, 3, none⟩ = some (.bool n0_3) ∧ W.cell? ⟨w.heap.size, 4, none⟩ = some (.int .i64 n0_4) ∧ W.cell? ⟨w.heap.size, 5, none⟩ = some (.int .i64 n0_5) ∧ W.cell? ⟨w.heap.size, 6, none⟩ = some (.int .i64 n0_6) ∧ W.cell? ⟨w.heap.size, 7, none⟩ = some (.int .i64 n0_7) ∧ W.cell? ⟨w.heap.size, 8, none⟩ = some (.int .i64 n0_8) ∧ W.cell? ⟨w.heap.size, 9, none⟩ = some (.int .i64 n0_9) ∧ W.cell? ⟨w.heap.size, 10, none⟩ = some (.slice A0_10 xs0_10.length c0_10) ∧ W.cell? ⟨w.heap.size, 11, none⟩ = some (.slice A0_11 xs0_11.length c0_11) ∧ W.cell? ⟨w4.heap.size, 0, none⟩ = some (.slice VA0_0 xs0_0.length xs0_0.length) ∧ W.cell? ⟨w4.heap.size, 1, none⟩ = some (.slice VA0_1 xs0_1.length xs0_1.length) ∧ W.cell? ⟨w4.heap.size, 2, none⟩ = some (.int .i64 n0_2) ∧ W.cell? ⟨w4.heap.size, 3, none⟩ = some (.bool n0_3) ∧ W.cell? ⟨w4.heap.size, 4, none⟩ = some (.int .i64 n0_4) ∧ W.cell? ⟨w4.heap.size, 5, none⟩ = some (.int .i64 n0_5) ∧ W.cell? ⟨w4.heap.size, 6, none⟩ = some (.int .i64 n0_6) ∧ W.cell? ⟨w4.heap.size, 7, none⟩ = some (.int .i64 n0_7) ∧ W.cell? ⟨w4.heap.size, 8, none⟩ = some (.int .i64 n0_8) ∧ W.cell? ⟨w4.heap.size, 9, none⟩ = some (.int .i64 n0_9) ∧ W.cell? ⟨w4.heap.size, 10, none⟩ = some (.slice VA0_10 xs0_10.length xs0_10.length) ∧ W.cell? ⟨w4.heap.size, 11, none⟩ = some (.slice VA0_11 xs0_11.length xs0_11.length)) (exact HSd.out _ (by first | exact kb | exact ka | exact HDd.out))
    ((first | (go_at_call 23; go_fit (toPager2_any (H0_0.out.at (Nat.le_refl _) HEd.out) (H0_1.out.at (Nat.le_refl _) HEd.out) (H0_10.out.at (Nat.le_refl _) HEd.out) (H0_11.out.at (Nat.le_refl _) HEd.out) (Nat.le_refl _) SM0.out); rintro e ua ⟨NA0, NA1, NA10, NA11, _, _, rfl, oo0, oo1, oo10, oo11, -, -, -, -, -, -, -, -, ga⟩; have ON0 := Lib.hid oo0; clear oo0; have ON1 := Lib.hid oo1; clear oo1; have ON10 := Lib.hid oo10; clear oo10; have ON11 := Lib.hid oo11; clear oo11; have ka : Below w7.heap.size w7 ua := HDd.out.trans ga; clear ga) | (go_at_call 25; go_fit (eqPager_any (OT.rit (own_bel OV0_0_7.out ka) H0_0.out.inT) (OU.riu (own_bel OV0_1_7.out ka) H0_1.out.wf) (OG.riu (own_bel OV0_10_7.out ka) H0_10.out.wf) (OG.riu (own_bel OV0_11_7.out ka) H0_11.out.wf) (ON0.out.rit H0_0.out.inT) (ON1.out.riu H0_1.out.wf) (ON10.out.riu H0_10.out.wf) (ON11.out.riu H0_11.out.wf) (Nat.le_refl _)); rintro e w8 ⟨rfl, gb⟩; have kb : Below w7.heap.size w7 w8 := ka.trans (gb.mono ka.size); clear gb)))
  try simp only [Exit.then]
  have G8 := Lib.hid kb; have SZ8 : Hid (w7.heap.size ≤ w8.heap.size) := Lib.hid kb.size; clear kb ka
  have F0_0_8 : Hid (w8.cell? ⟨w.heap.size, 0, none⟩ = some (.slice A0_0 xs0_0.length c0_0)) := Lib.hid (oldM G8.out F0_0_7.out)
  have F0_1_8 : Hid (w8.cell? ⟨w.heap.size, 1, none⟩ = some (.slice A0_1 xs0_1.length c0_1)) := Lib.hid (oldM G8.out F0_1_7.out)
  have F0_2_8 : Hid (w8.cell? ⟨w.heap.size, 2, none⟩ = some (.int .i64 n0_2)) := Lib.hid (oldM G8.out F0_2_7.out)
  have F0_3_8 : Hid (w8.cell? ⟨w.heap.size, 3, none⟩ = some (.bool n0_3)) := Lib.hid (oldM G8.out F0_3_7.out)
  have F0_4_8 : Hid (w8.cell? ⟨w.heap.size, 4, none⟩ = some (.int .i64 n0_4)) := Lib.hid (oldM G8.out F0_4_7.out)
  have F0_5_8 : Hid (w8.cell? ⟨w.heap.size, 5, none⟩ = some (.int .i64 n0_5)) := Lib.hid (oldM G8.out F0_5_7.out)
  have F0_6_8 : Hid (w8.cell? ⟨w.heap.size, 6, none⟩ = some (.int .i64 n0_6)) := Lib.hid (oldM G8.out F0_6_7.out)
  have F0_7_8 : Hid (w8.cell? ⟨w.heap.size, 7, none⟩ = some (.int .i64 n0_7)) := Lib.hid (oldM G8.out F0_7_7.out)
  have F0_8_8 : Hid (w8.cell? ⟨w.heap.size, 8, none⟩ = some (.int .i64 n0_8)) := Lib.hid (oldM G8.out F0_8_7.out)
  have F0_9_8 : Hid (w8.cell? ⟨w.heap.size, 9, none⟩ = some (.int .i64 n0_9)) := Lib.hid (oldM G8.out F0_9_7.out)
  have F0_10_8 : Hid (w8.cell? ⟨w.heap.size, 10, none⟩ = some (.slice A0_10 xs0_10.length c0_10)) := Lib.hid (oldM G8.out F0_10_7.out)
  have F0_11_8 : Hid (w8.cell? ⟨w.heap.size, 11, none⟩ = some (.slice A0_11 xs0_11.length c0_11)) := Lib.hid (oldM G8.out F0_11_7.out)
  have OZ_8 : Hid (OR w8 w2.heap.size (.slice ZA D.length Zc) D) := Lib.hid (own_bel OZ_7.out G8.out)
  have OV0_0_8 : Hid (OT w8 w3.heap.size (.slice VA0_0 xs0_0.length xs0_0.length) xs0_0) := Lib.hid (own_bel OV0_0_7.out G8.out)
  have OV0_1_8 : Hid (OU w8 w3.heap.size (.slice VA0_1 xs0_1.length xs0_1.length) xs0_1) := Lib.hid (own_bel OV0_1_7.out G8.out)
  have OV0_10_8 : Hid (OG w8 w3.heap.size (.slice VA0_10 xs0_10.length xs0_10.length) xs0_10) := Lib.hid (own_bel OV0_10_7.out G8.out)
  have OV0_11_8 : Hid (OG w8 w3.heap.size (.slice VA0_11 xs0_11.length xs0_11.length) xs0_11) := Lib.hid (own_bel OV0_11_7.out G8.out)
  have K0_0_8 : Hid (w8.cell? ⟨w4.heap.size, 0, none⟩ = some (.slice VA0_0 xs0_0.length xs0_0.length)) := Lib.hid (oldM G8.out K0_0_7.out)
  have K0_1_8 : Hid (w8.cell? ⟨w4.heap.size, 1, none⟩ = some (.slice VA0_1 xs0_1.length xs0_1.length)) := Lib.hid (oldM G8.out K0_1_7.out)
  have K0_2_8 : Hid (w8.cell? ⟨w4.heap.size, 2, none⟩ = some (.int .i64 n0_2)) := Lib.hid (oldM G8.out K0_2_7.out)
  have K0_3_8 : Hid (w8.cell? ⟨w4.heap.size, 3, none⟩ = some (.bool n0_3)) := Lib.hid (oldM G8.out K0_3_7.out)
  have K0_4_8 : Hid (w8.cell? ⟨w4.heap.size, 4, none⟩ = some (.int .i64 n0_4)) := Lib.hid (oldM G8.out K0_4_7.out)
  have K0_5_8 : Hid (w8.cell? ⟨w4.heap.size, 5, none⟩ = some (.int .i64 n0_5)) := Lib.hid (oldM G8.out K0_5_7.out)
  have K0_6_8 : Hid (w8.cell? ⟨w4.heap.size, 6, none⟩ = some (.int .i64 n0_6)) := Lib.hid (oldM G8.out K0_6_7.out)
  have K0_7_8 : Hid (w8.cell? ⟨w4.heap.size, 7, none⟩ = some (.int .i64 n0_7)) := Lib.hid (oldM G8.out K0_7_7.out)
  have K0_8_8 : Hid (w8.cell? ⟨w4.heap.size, 8, none⟩ = some (.int .i64 n0_8)) := Lib.hid (oldM G8.out K0_8_7.out)
  have K0_9_8 : Hid (w8.cell? ⟨w4.heap.size, 9, none⟩ = some (.int .i64 n0_9)) := Lib.hid (oldM G8.out K0_9_7.out)
  have K0_10_8 : Hid (w8.cell? ⟨w4.heap.size, 10, none⟩ = some (.slice VA0_10 xs0_10.length xs0_10.length)) := Lib.hid (oldM G8.out K0_10_7.out)
  have K0_11_8 : Hid (w8.cell? ⟨w4.heap.size, 11, none⟩ = some (.slice VA0_11 xs0_11.length xs0_11.length)) := Lib.hid (oldM G8.out K0_11_7.out)
  have OY_8 : Hid (OR w8 w5.heap.size (.slice YA D.length Yc) D) := Lib.hid (own_bel OY_7.out G8.out)
  have HB8 : Hid (Below w.heap.size w w8) := Lib.hid (HB7.out.trans (G8.out.mono HB7.out.size))
  have qF0_0 := F0_0_8.out
  have qF0_1 := F0_1_8.out
  have qF0_2 := F0_2_8.out
  have qF0_3 := F0_3_8.out
  have qF0_4 := F0_4_8.out
  have qF0_5 := F0_5_8.out
  have qF0_6 := F0_6_8.out
  have qF0_7 := F0_7_8.out
  have qF0_8 := F0_8_8.out
  have qF0_9 := F0_9_8.out
  have qF0_10 := F0_10_8.out
  have qF0_11 := F0_11_8.out
  have qK0_0 := K0_0_8.out
  have qK0_1 := K0_1_8.out
  have qK0_2 := K0_2_8.out
  have qK0_3 := K0_3_8.out
  have qK0_4 := K0_4_8.out
  have qK0_5 := K0_5_8.out
  have qK0_6 := K0_6_8.out
  have qK0_7 := K0_7_8.out
  have qK0_8 := K0_8_8.out
  have qK0_9 := K0_9_8.out
  have qK0_10 := K0_10_8.out
  have qK0_11 := K0_11_8.out
  go_wp2_with fail
  clear qF0_0 qF0_1 qF0_2 qF0_3 qF0_4 qF0_5 qF0_6 qF0_7 qF0_8 qF0_9 qF0_10 qF0_11 qK0_0 qK0_1 qK0_2 qK0_3 qK0_4 qK0_5 qK0_6 qK0_7 qK0_8 qK0_9 qK0_10 qK0_11
  refine (markPager_any (lo := w3.heap.size) (hi := w4.heap.size) OV0_0_8.out OV0_1_8.out OV0_10_8.out OV0_11_8.out KVap0.out KVwi0.out KVwi1.out KVwi10.out KVwi11.out KVod0.out KVod1.out KVod2.out (by have s0 := SZ0.out; have s1 := SZ1.out; have s2 := SZ2.out; have s3 := SZ3.out; have s4 := SZ4.out; have s5 := SZ5.out; have s6 := SZ6.out; have s7 := SZ7.out; have s8 := SZ8.out; omega) (1) (by omega) (by have h1 := SM0.out; simp only [SmT, SmU] at h1; omega)).mono ?_
  rintro e w9 ⟨rfl, mm⟩
  have Mv9 : Hid (Mv w3.heap.size w4.heap.size w8 w9) := Lib.hid (mm)
  have SZ9 : Hid (w8.heap.size ≤ w9.heap.size) := Lib.hid Mv9.out.2.2.2.1
  have F0_0_9 : Hid (w9.cell? ⟨w.heap.size, 0, none⟩ = some (.slice A0_0 xs0_0.length c0_0)) := Lib.hid (Mv9.out.cell F0_0_8.out (by have s0 := SZ0.out; have s1 := SZ1.out; have s2 := SZ2.out; have s3 := SZ3.out; have s4 := SZ4.out; have s5 := SZ5.out; have s6 := SZ6.out; have s7 := SZ7.out; have s8 := SZ8.out; have s9 := SZ9.out; simp only; omega))
  have F0_1_9 : Hid (w9.cell? ⟨w.heap.size, 1, none⟩ = some (.slice A0_1 xs0_1.length c0_1)) := Lib.hid (Mv9.out.cell F0_1_8.out (by have s0 := SZ0.out; have s1 := SZ1.out; have s2 := SZ2.out; have s3 := SZ3.out; have s4 := SZ4.out; have s5 := SZ5.out; have s6 := SZ6.out; have s7 := SZ7.out; have s8 := SZ8.out; have s9 := SZ9.out; simp only; omega))
  have F0_2_9 : Hid (w9.cell? ⟨w.heap.size, 2, none⟩ = some (.int .i64 n0_2)) := Lib.hid (Mv9.out.cell F0_2_8.out (by have s0 := SZ0.out; have s1 := SZ1.out; have s2 := SZ2.out; have s3 := SZ3.out; have s4 := SZ4.out; have s5 := SZ5.out; have s6 := SZ6.out; have s7 := SZ7.out; have s8 := SZ8.out; have s9 := SZ9.out; simp only; omega))
  have F0_3_9 : Hid (w9.cell? ⟨w.heap.size, 3, none⟩ = some (.bool n0_3)) := Lib.hid (Mv9.out.cell F0_3_8.out (by have s0 := SZ0.out; have s1 := SZ1.out; have s2 := SZ2.out; have s3 := SZ3.out; have s4 := SZ4.out; have s5 := SZ5.out; have s6 := SZ6.out; have s7 := SZ7.out; have s8 := SZ8.out; have s9 := SZ9.out; simp only; omega))
  have F0_4_9 : Hid (w9.cell? ⟨w.heap.size, 4, none⟩ = some (.int .i64 n0_4)) := Lib.hid (Mv9.out.cell F0_4_8.out (by have s0 := SZ0.out; have s1 := SZ1.out; have s2 := SZ2.out; have s3 := SZ3.out; have s4 := SZ4.out; have s5 := SZ5.out; have s6 := SZ6.out; have s7 := SZ7.out; have s8 := SZ8.out; have s9 := SZ9.out; simp only; omega))
  have F0_5_9 : Hid (w9.cell? ⟨w.heap.size, 5, none⟩ = some (.int .i64 n0_5)) := Lib.hid (Mv9.out.cell F0_5_8.out (by have s0 := SZ0.out; have s1 := SZ1.out; have s2 := SZ2.out; have s3 := SZ3.out; have s4 := SZ4.out; have s5 := SZ5.out; have s6 := SZ6.out; have s7 := SZ7.out; have s8 := SZ8.out; have s9 := SZ9.out; simp only; omega))
  have F0_6_9 : Hid (w9.cell? ⟨w.heap.size, 6, none⟩ = some (.int .i64 n0_6)) := Lib.hid (Mv9.out.cell F0_6_8.out (by have s0 := SZ0.out; have s1 := SZ1.out; have s2 := SZ2.out; have s3 := SZ3.out; have s4 := SZ4.out; have s5 := SZ5.out; have s6 := SZ6.out; have s7 := SZ7.out; have s8 := SZ8.out; have s9 := SZ9.out; simp only; omega))
  have F0_7_9 : Hid (w9.cell? ⟨w.heap.size, 7, none⟩ = some (.int .i64 n0_7)) := Lib.hid (Mv9.out.cell F0_7_8.out (by have s0 := SZ0.out; have s1 := SZ1.out; have s2 := SZ2.out; have s3 := SZ3.out; have s4 := SZ4.out; have s5 := SZ5.out; have s6 := SZ6.out; have s7 := SZ7.out; have s8 := SZ8.out; have s9 := SZ9.out; simp only; omega))
  have F0_8_9 : Hid (w9.cell? ⟨w.heap.size, 8, none⟩ = some (.int .i64 n0_8)) := Lib.hid (Mv9.out.cell F0_8_8.out (by have s0 := SZ0.out; have s1 := SZ1.out; have s2 := SZ2.out; have s3 := SZ3.out; have s4 := SZ4.out; have s5 := SZ5.out; have s6 := SZ6.out; have s7 := SZ7.out; have s8 := SZ8.out; have s9 := SZ9.out; simp only; omega))
  have F0_9_9 : Hid (w9.cell? ⟨w.heap.size, 9, none⟩ = some (.int .i64 n0_9)) := Lib.hid (Mv9.out.cell F0_9_8.out (by have s0 := SZ0.out; have s1 := SZ1.out; have s2 := SZ2.out; have s3 := SZ3.out; have s4 := SZ4.out; have s5 := SZ5.out; have s6 := SZ6.out; have s7 := SZ7.out; have s8 := SZ8.out; have s9 := SZ9.out; simp only; omega))
  have F0_10_9 : Hid (w9.cell? ⟨w.heap.size, 10, none⟩ = some (.slice A0_10 xs0_10.length c0_10)) := Lib.hid (Mv9.out.cell F0_10_8.out (by have s0 := SZ0.out; have s1 := SZ1.out; have s2 := SZ2.out; have s3 := SZ3.out; have s4 := SZ4.out; have s5 := SZ5.out; have s6 := SZ6.out; have s7 := SZ7.out; have s8 := SZ8.out; have s9 := SZ9.out; simp only; omega))
  have F0_11_9 : Hid (w9.cell? ⟨w.heap.size, 11, none⟩ = some (.slice A0_11 xs0_11.length c0_11)) := Lib.hid (Mv9.out.cell F0_11_8.out (by have s0 := SZ0.out; have s1 := SZ1.out; have s2 := SZ2.out; have s3 := SZ3.out; have s4 := SZ4.out; have s5 := SZ5.out; have s6 := SZ6.out; have s7 := SZ7.out; have s8 := SZ8.out; have s9 := SZ9.out; simp only; omega))
  have OZ_9 : Hid (OR w9 w2.heap.size (.slice ZA D.length Zc) D) := Lib.hid (own_mv OZ_8.out Mv9.out (fun g hg => by have := IZ.out g hg; have s0 := SZ0.out; have s1 := SZ1.out; have s2 := SZ2.out; have s3 := SZ3.out; have s4 := SZ4.out; have s5 := SZ5.out; have s6 := SZ6.out; have s7 := SZ7.out; have s8 := SZ8.out; have s9 := SZ9.out; omega))
  have K0_0_9 : Hid (w9.cell? ⟨w4.heap.size, 0, none⟩ = some (.slice VA0_0 xs0_0.length xs0_0.length)) := Lib.hid (Mv9.out.cell K0_0_8.out (by have s0 := SZ0.out; have s1 := SZ1.out; have s2 := SZ2.out; have s3 := SZ3.out; have s4 := SZ4.out; have s5 := SZ5.out; have s6 := SZ6.out; have s7 := SZ7.out; have s8 := SZ8.out; have s9 := SZ9.out; simp only; omega))
  have K0_1_9 : Hid (w9.cell? ⟨w4.heap.size, 1, none⟩ = some (.slice VA0_1 xs0_1.length xs0_1.length)) := Lib.hid (Mv9.out.cell K0_1_8.out (by have s0 := SZ0.out; have s1 := SZ1.out; have s2 := SZ2.out; have s3 := SZ3.out; have s4 := SZ4.out; have s5 := SZ5.out; have s6 := SZ6.out; have s7 := SZ7.out; have s8 := SZ8.out; have s9 := SZ9.out; simp only; omega))
  have K0_2_9 : Hid (w9.cell? ⟨w4.heap.size, 2, none⟩ = some (.int .i64 n0_2)) := Lib.hid (Mv9.out.cell K0_2_8.out (by have s0 := SZ0.out; have s1 := SZ1.out; have s2 := SZ2.out; have s3 := SZ3.out; have s4 := SZ4.out; have s5 := SZ5.out; have s6 := SZ6.out; have s7 := SZ7.out; have s8 := SZ8.out; have s9 := SZ9.out; simp only; omega))
  have K0_3_9 : Hid (w9.cell? ⟨w4.heap.size, 3, none⟩ = some (.bool n0_3)) := Lib.hid (Mv9.out.cell K0_3_8.out (by have s0 := SZ0.out; have s1 := SZ1.out; have s2 := SZ2.out; have s3 := SZ3.out; have s4 := SZ4.out; have s5 := SZ5.out; have s6 := SZ6.out; have s7 := SZ7.out; have s8 := SZ8.out; have s9 := SZ9.out; simp only; omega))
  have K0_4_9 : Hid (w9.cell? ⟨w4.heap.size, 4, none⟩ = some (.int .i64 n0_4)) := Lib.hid (Mv9.out.cell K0_4_8.out (by have s0 := SZ0.out; have s1 := SZ1.out; have s2 := SZ2.out; have s3 := SZ3.out; have s4 := SZ4.out; have s5 := SZ5.out; have s6 := SZ6.out; have s7 := SZ7.out; have s8 := SZ8.out; have s9 := SZ9.out; simp only; omega))
  have K0_5_9 : Hid (w9.cell? ⟨w4.heap.size, 5, none⟩ = some (.int .i64 n0_5)) := Lib.hid (Mv9.out.cell K0_5_8.out (by have s0 := SZ0.out; have s1 := SZ1.out; have s2 := SZ2.out; have s3 := SZ3.out; have s4 := SZ4.out; have s5 := SZ5.out; have s6 := SZ6.out; have s7 := SZ7.out; have s8 := SZ8.out; have s9 := SZ9.out; simp only; omega))
  have K0_6_9 : Hid (w9.cell? ⟨w4.heap.size, 6, none⟩ = some (.int .i64 n0_6)) := Lib.hid (Mv9.out.cell K0_6_8.out (by have s0 := SZ0.out; have s1 := SZ1.out; have s2 := SZ2.out; have s3 := SZ3.out; have s4 := SZ4.out; have s5 := SZ5.out; have s6 := SZ6.out; have s7 := SZ7.out; have s8 := SZ8.out; have s9 := SZ9.out; simp only; omega))
  have K0_7_9 : Hid (w9.cell? ⟨w4.heap.size, 7, none⟩ = some (.int .i64 n0_7)) := Lib.hid (Mv9.out.cell K0_7_8.out (by have s0 := SZ0.out; have s1 := SZ1.out; have s2 := SZ2.out; have s3 := SZ3.out; have s4 := SZ4.out; have s5 := SZ5.out; have s6 := SZ6.out; have s7 := SZ7.out; have s8 := SZ8.out; have s9 := SZ9.out; simp only; omega))
  have K0_8_9 : Hid (w9.cell? ⟨w4.heap.size, 8, none⟩ = some (.int .i64 n0_8)) := Lib.hid (Mv9.out.cell K0_8_8.out (by have s0 := SZ0.out; have s1 := SZ1.out; have s2 := SZ2.out; have s3 := SZ3.out; have s4 := SZ4.out; have s5 := SZ5.out; have s6 := SZ6.out; have s7 := SZ7.out; have s8 := SZ8.out; have s9 := SZ9.out; simp only; omega))
  have K0_9_9 : Hid (w9.cell? ⟨w4.heap.size, 9, none⟩ = some (.int .i64 n0_9)) := Lib.hid (Mv9.out.cell K0_9_8.out (by have s0 := SZ0.out; have s1 := SZ1.out; have s2 := SZ2.out; have s3 := SZ3.out; have s4 := SZ4.out; have s5 := SZ5.out; have s6 := SZ6.out; have s7 := SZ7.out; have s8 := SZ8.out; have s9 := SZ9.out; simp only; omega))
  have K0_10_9 : Hid (w9.cell? ⟨w4.heap.size, 10, none⟩ = some (.slice VA0_10 xs0_10.length xs0_10.length)) := Lib.hid (Mv9.out.cell K0_10_8.out (by have s0 := SZ0.out; have s1 := SZ1.out; have s2 := SZ2.out; have s3 := SZ3.out; have s4 := SZ4.out; have s5 := SZ5.out; have s6 := SZ6.out; have s7 := SZ7.out; have s8 := SZ8.out; have s9 := SZ9.out; simp only; omega))
  have K0_11_9 : Hid (w9.cell? ⟨w4.heap.size, 11, none⟩ = some (.slice VA0_11 xs0_11.length xs0_11.length)) := Lib.hid (Mv9.out.cell K0_11_8.out (by have s0 := SZ0.out; have s1 := SZ1.out; have s2 := SZ2.out; have s3 := SZ3.out; have s4 := SZ4.out; have s5 := SZ5.out; have s6 := SZ6.out; have s7 := SZ7.out; have s8 := SZ8.out; have s9 := SZ9.out; simp only; omega))
  have OY_9 : Hid (OR w9 w5.heap.size (.slice YA D.length Yc) D) := Lib.hid (own_mv OY_8.out Mv9.out (fun g hg => by have := IY.out g hg; have s0 := SZ0.out; have s1 := SZ1.out; have s2 := SZ2.out; have s3 := SZ3.out; have s4 := SZ4.out; have s5 := SZ5.out; have s6 := SZ6.out; have s7 := SZ7.out; have s8 := SZ8.out; have s9 := SZ9.out; omega))
  have HB9 : Hid (Below w.heap.size w w9) := Lib.hid (Mv9.out.below HB8.out (by have s0 := SZ0.out; have s1 := SZ1.out; have s2 := SZ2.out; have s3 := SZ3.out; have s4 := SZ4.out; have s5 := SZ5.out; have s6 := SZ6.out; have s7 := SZ7.out; have s8 := SZ8.out; have s9 := SZ9.out; omega) HB8.out.size)
  clear mm
  have neg_m1 : ¬ (((1 + xs0_0.length + 2 * xs0_1.length + 2 * xs0_10.length + 2 * xs0_11.length : Nat) : Int) < 0) := by omega
  have qF0_0 := F0_0_9.out
  have qF0_1 := F0_1_9.out
  have qF0_2 := F0_2_9.out
  have qF0_3 := F0_3_9.out
  have qF0_4 := F0_4_9.out
  have qF0_5 := F0_5_9.out
  have qF0_6 := F0_6_9.out
  have qF0_7 := F0_7_9.out
  have qF0_8 := F0_8_9.out
  have qF0_9 := F0_9_9.out
  have qF0_10 := F0_10_9.out
  have qF0_11 := F0_11_9.out
  have qK0_0 := K0_0_9.out
  have qK0_1 := K0_1_9.out
  have qK0_2 := K0_2_9.out
  have qK0_3 := K0_3_9.out
  have qK0_4 := K0_4_9.out
  have qK0_5 := K0_5_9.out
  have qK0_6 := K0_6_9.out
  have qK0_7 := K0_7_9.out
  have qK0_8 := K0_8_9.out
  have qK0_9 := K0_9_9.out
  have qK0_10 := K0_10_9.out
  have qK0_11 := K0_11_9.out
  go_wp2_with fail
  clear qF0_0 qF0_1 qF0_2 qF0_3 qF0_4 qF0_5 qF0_6 qF0_7 qF0_8 qF0_9 qF0_10 qF0_11 qK0_0 qK0_1 qK0_2 qK0_3 qK0_4 qK0_5 qK0_6 qK0_7 qK0_8 qK0_9 qK0_10 qK0_11
  refine (eqRuns_any (OY_9.out.ri OKD.out.1) (OZ_9.out.ri OKD.out.1) (Nat.le_refl _)).mono ?_
  rintro e w10 ⟨rfl, g⟩
  have G10 := Lib.hid g; have SZ10 : Hid (w9.heap.size ≤ w10.heap.size) := Lib.hid g.size; clear g
  have F0_0_10 : Hid (w10.cell? ⟨w.heap.size, 0, none⟩ = some (.slice A0_0 xs0_0.length c0_0)) := Lib.hid (oldM G10.out F0_0_9.out)
  have F0_1_10 : Hid (w10.cell? ⟨w.heap.size, 1, none⟩ = some (.slice A0_1 xs0_1.length c0_1)) := Lib.hid (oldM G10.out F0_1_9.out)
  have F0_2_10 : Hid (w10.cell? ⟨w.heap.size, 2, none⟩ = some (.int .i64 n0_2)) := Lib.hid (oldM G10.out F0_2_9.out)
  have F0_3_10 : Hid (w10.cell? ⟨w.heap.size, 3, none⟩ = some (.bool n0_3)) := Lib.hid (oldM G10.out F0_3_9.out)
  have F0_4_10 : Hid (w10.cell? ⟨w.heap.size, 4, none⟩ = some (.int .i64 n0_4)) := Lib.hid (oldM G10.out F0_4_9.out)
  have F0_5_10 : Hid (w10.cell? ⟨w.heap.size, 5, none⟩ = some (.int .i64 n0_5)) := Lib.hid (oldM G10.out F0_5_9.out)
  have F0_6_10 : Hid (w10.cell? ⟨w.heap.size, 6, none⟩ = some (.int .i64 n0_6)) := Lib.hid (oldM G10.out F0_6_9.out)
  have F0_7_10 : Hid (w10.cell? ⟨w.heap.size, 7, none⟩ = some (.int .i64 n0_7)) := Lib.hid (oldM G10.out F0_7_9.out)
  have F0_8_10 : Hid (w10.cell? ⟨w.heap.size, 8, none⟩ = some (.int .i64 n0_8)) := Lib.hid (oldM G10.out F0_8_9.out)
  have F0_9_10 : Hid (w10.cell? ⟨w.heap.size, 9, none⟩ = some (.int .i64 n0_9)) := Lib.hid (oldM G10.out F0_9_9.out)
  have F0_10_10 : Hid (w10.cell? ⟨w.heap.size, 10, none⟩ = some (.slice A0_10 xs0_10.length c0_10)) := Lib.hid (oldM G10.out F0_10_9.out)
  have F0_11_10 : Hid (w10.cell? ⟨w.heap.size, 11, none⟩ = some (.slice A0_11 xs0_11.length c0_11)) := Lib.hid (oldM G10.out F0_11_9.out)
  have OZ_10 : Hid (OR w10 w2.heap.size (.slice ZA D.length Zc) D) := Lib.hid (own_bel OZ_9.out G10.out)
  have K0_0_10 : Hid (w10.cell? ⟨w4.heap.size, 0, none⟩ = some (.slice VA0_0 xs0_0.length xs0_0.length)) := Lib.hid (oldM G10.out K0_0_9.out)
  have K0_1_10 : Hid (w10.cell? ⟨w4.heap.size, 1, none⟩ = some (.slice VA0_1 xs0_1.length xs0_1.length)) := Lib.hid (oldM G10.out K0_1_9.out)
  have K0_2_10 : Hid (w10.cell? ⟨w4.heap.size, 2, none⟩ = some (.int .i64 n0_2)) := Lib.hid (oldM G10.out K0_2_9.out)
  have K0_3_10 : Hid (w10.cell? ⟨w4.heap.size, 3, none⟩ = some (.bool n0_3)) := Lib.hid (oldM G10.out K0_3_9.out)
  have K0_4_10 : Hid (w10.cell? ⟨w4.heap.size, 4, none⟩ = some (.int .i64 n0_4)) := Lib.hid (oldM G10.out K0_4_9.out)
  have K0_5_10 : Hid (w10.cell? ⟨w4.heap.size, 5, none⟩ = some (.int .i64 n0_5)) := Lib.hid (oldM G10.out K0_5_9.out)
  have K0_6_10 : Hid (w10.cell? ⟨w4.heap.size, 6, none⟩ = some (.int .i64 n0_6)) := Lib.hid (oldM G10.out K0_6_9.out)
  have K0_7_10 : Hid (w10.cell? ⟨w4.heap.size, 7, none⟩ = some (.int .i64 n0_7)) := Lib.hid (oldM G10.out K0_7_9.out)
  have K0_8_10 : Hid (w10.cell? ⟨w4.heap.size, 8, none⟩ = some (.int .i64 n0_8)) := Lib.hid (oldM G10.out K0_8_9.out)
  have K0_9_10 : Hid (w10.cell? ⟨w4.heap.size, 9, none⟩ = some (.int .i64 n0_9)) := Lib.hid (oldM G10.out K0_9_9.out)
  have K0_10_10 : Hid (w10.cell? ⟨w4.heap.size, 10, none⟩ = some (.slice VA0_10 xs0_10.length xs0_10.length)) := Lib.hid (oldM G10.out K0_10_9.out)
  have K0_11_10 : Hid (w10.cell? ⟨w4.heap.size, 11, none⟩ = some (.slice VA0_11 xs0_11.length xs0_11.length)) := Lib.hid (oldM G10.out K0_11_9.out)
  have OY_10 : Hid (OR w10 w5.heap.size (.slice YA D.length Yc) D) := Lib.hid (own_bel OY_9.out G10.out)
  have HB10 : Hid (Below w.heap.size w w10) := Lib.hid (HB9.out.trans (G10.out.mono HB9.out.size))
  have qF0_0 := F0_0_10.out
  have qF0_1 := F0_1_10.out
  have qF0_2 := F0_2_10.out
  have qF0_3 := F0_3_10.out
  have qF0_4 := F0_4_10.out
  have qF0_5 := F0_5_10.out
  have qF0_6 := F0_6_10.out
  have qF0_7 := F0_7_10.out
  have qF0_8 := F0_8_10.out
  have qF0_9 := F0_9_10.out
  have qF0_10 := F0_10_10.out
  have qF0_11 := F0_11_10.out
  have qK0_0 := K0_0_10.out
  have qK0_1 := K0_1_10.out
  have qK0_2 := K0_2_10.out
  have qK0_3 := K0_3_10.out
  have qK0_4 := K0_4_10.out
  have qK0_5 := K0_5_10.out
  have qK0_6 := K0_6_10.out
  have qK0_7 := K0_7_10.out
  have qK0_8 := K0_8_10.out
  have qK0_9 := K0_9_10.out
  have qK0_10 := K0_10_10.out
  have qK0_11 := K0_11_10.out
  go_wp2_with fail
  clear qF0_0 qF0_1 qF0_2 qF0_3 qF0_4 qF0_5 qF0_6 qF0_7 qF0_8 qF0_9 qF0_10 qF0_11 qK0_0 qK0_1 qK0_2 qK0_3 qK0_4 qK0_5 qK0_6 qK0_7 qK0_8 qK0_9 qK0_10 qK0_11
  refine (markR_any OY_10.out 1 (by omega) (by have h1 := OKD.out.2; omega)).mono ?_
  rintro e w11 ⟨rfl, oa, gr⟩
  have Mv11 : Hid (Mv w5.heap.size w6.heap.size w10 w11) := Lib.hid (Mv.grown gr IY.out)
  have SZ11 : Hid (w10.heap.size ≤ w11.heap.size) := Lib.hid Mv11.out.2.2.2.1
  have F0_0_11 : Hid (w11.cell? ⟨w.heap.size, 0, none⟩ = some (.slice A0_0 xs0_0.length c0_0)) := Lib.hid (Mv11.out.cell F0_0_10.out (by have s0 := SZ0.out; have s1 := SZ1.out; have s2 := SZ2.out; have s3 := SZ3.out; have s4 := SZ4.out; have s5 := SZ5.out; have s6 := SZ6.out; have s7 := SZ7.out; have s8 := SZ8.out; have s9 := SZ9.out; have s10 := SZ10.out; have s11 := SZ11.out; simp only; omega))
  have F0_1_11 : Hid (w11.cell? ⟨w.heap.size, 1, none⟩ = some (.slice A0_1 xs0_1.length c0_1)) := Lib.hid (Mv11.out.cell F0_1_10.out (by have s0 := SZ0.out; have s1 := SZ1.out; have s2 := SZ2.out; have s3 := SZ3.out; have s4 := SZ4.out; have s5 := SZ5.out; have s6 := SZ6.out; have s7 := SZ7.out; have s8 := SZ8.out; have s9 := SZ9.out; have s10 := SZ10.out; have s11 := SZ11.out; simp only; omega))
  have F0_2_11 : Hid (w11.cell? ⟨w.heap.size, 2, none⟩ = some (.int .i64 n0_2)) := Lib.hid (Mv11.out.cell F0_2_10.out (by have s0 := SZ0.out; have s1 := SZ1.out; have s2 := SZ2.out; have s3 := SZ3.out; have s4 := SZ4.out; have s5 := SZ5.out; have s6 := SZ6.out; have s7 := SZ7.out; have s8 := SZ8.out; have s9 := SZ9.out; have s10 := SZ10.out; have s11 := SZ11.out; simp only; omega))
  have F0_3_11 : Hid (w11.cell? ⟨w.heap.size, 3, none⟩ = some (.bool n0_3)) := Lib.hid (Mv11.out.cell F0_3_10.out (by have s0 := SZ0.out; have s1 := SZ1.out; have s2 := SZ2.out; have s3 := SZ3.out; have s4 := SZ4.out; have s5 := SZ5.out; have s6 := SZ6.out; have s7 := SZ7.out; have s8 := SZ8.out; have s9 := SZ9.out; have s10 := SZ10.out; have s11 := SZ11.out; simp only; omega))
  have F0_4_11 : Hid (w11.cell? ⟨w.heap.size, 4, none⟩ = some (.int .i64 n0_4)) := Lib.hid (Mv11.out.cell F0_4_10.out (by have s0 := SZ0.out; have s1 := SZ1.out; have s2 := SZ2.out; have s3 := SZ3.out; have s4 := SZ4.out; have s5 := SZ5.out; have s6 := SZ6.out; have s7 := SZ7.out; have s8 := SZ8.out; have s9 := SZ9.out; have s10 := SZ10.out; have s11 := SZ11.out; simp only; omega))
  have F0_5_11 : Hid (w11.cell? ⟨w.heap.size, 5, none⟩ = some (.int .i64 n0_5)) := Lib.hid (Mv11.out.cell F0_5_10.out (by have s0 := SZ0.out; have s1 := SZ1.out; have s2 := SZ2.out; have s3 := SZ3.out; have s4 := SZ4.out; have s5 := SZ5.out; have s6 := SZ6.out; have s7 := SZ7.out; have s8 := SZ8.out; have s9 := SZ9.out; have s10 := SZ10.out; have s11 := SZ11.out; simp only; omega))
  have F0_6_11 : Hid (w11.cell? ⟨w.heap.size, 6, none⟩ = some (.int .i64 n0_6)) := Lib.hid (Mv11.out.cell F0_6_10.out (by have s0 := SZ0.out; have s1 := SZ1.out; have s2 := SZ2.out; have s3 := SZ3.out; have s4 := SZ4.out; have s5 := SZ5.out; have s6 := SZ6.out; have s7 := SZ7.out; have s8 := SZ8.out; have s9 := SZ9.out; have s10 := SZ10.out; have s11 := SZ11.out; simp only; omega))
  have F0_7_11 : Hid (w11.cell? ⟨w.heap.size, 7, none⟩ = some (.int .i64 n0_7)) := Lib.hid (Mv11.out.cell F0_7_10.out (by have s0 := SZ0.out; have s1 := SZ1.out; have s2 := SZ2.out; have s3 := SZ3.out; have s4 := SZ4.out; have s5 := SZ5.out; have s6 := SZ6.out; have s7 := SZ7.out; have s8 := SZ8.out; have s9 := SZ9.out; have s10 := SZ10.out; have s11 := SZ11.out; simp only; omega))
  have F0_8_11 : Hid (w11.cell? ⟨w.heap.size, 8, none⟩ = some (.int .i64 n0_8)) := Lib.hid (Mv11.out.cell F0_8_10.out (by have s0 := SZ0.out; have s1 := SZ1.out; have s2 := SZ2.out; have s3 := SZ3.out; have s4 := SZ4.out; have s5 := SZ5.out; have s6 := SZ6.out; have s7 := SZ7.out; have s8 := SZ8.out; have s9 := SZ9.out; have s10 := SZ10.out; have s11 := SZ11.out; simp only; omega))
  have F0_9_11 : Hid (w11.cell? ⟨w.heap.size, 9, none⟩ = some (.int .i64 n0_9)) := Lib.hid (Mv11.out.cell F0_9_10.out (by have s0 := SZ0.out; have s1 := SZ1.out; have s2 := SZ2.out; have s3 := SZ3.out; have s4 := SZ4.out; have s5 := SZ5.out; have s6 := SZ6.out; have s7 := SZ7.out; have s8 := SZ8.out; have s9 := SZ9.out; have s10 := SZ10.out; have s11 := SZ11.out; simp only; omega))
  have F0_10_11 : Hid (w11.cell? ⟨w.heap.size, 10, none⟩ = some (.slice A0_10 xs0_10.length c0_10)) := Lib.hid (Mv11.out.cell F0_10_10.out (by have s0 := SZ0.out; have s1 := SZ1.out; have s2 := SZ2.out; have s3 := SZ3.out; have s4 := SZ4.out; have s5 := SZ5.out; have s6 := SZ6.out; have s7 := SZ7.out; have s8 := SZ8.out; have s9 := SZ9.out; have s10 := SZ10.out; have s11 := SZ11.out; simp only; omega))
  have F0_11_11 : Hid (w11.cell? ⟨w.heap.size, 11, none⟩ = some (.slice A0_11 xs0_11.length c0_11)) := Lib.hid (Mv11.out.cell F0_11_10.out (by have s0 := SZ0.out; have s1 := SZ1.out; have s2 := SZ2.out; have s3 := SZ3.out; have s4 := SZ4.out; have s5 := SZ5.out; have s6 := SZ6.out; have s7 := SZ7.out; have s8 := SZ8.out; have s9 := SZ9.out; have s10 := SZ10.out; have s11 := SZ11.out; simp only; omega))
  have OZ_11 : Hid (OR w11 w2.heap.size (.slice ZA D.length Zc) D) := Lib.hid (own_mv OZ_10.out Mv11.out (fun g hg => by have := IZ.out g hg; have s0 := SZ0.out; have s1 := SZ1.out; have s2 := SZ2.out; have s3 := SZ3.out; have s4 := SZ4.out; have s5 := SZ5.out; have s6 := SZ6.out; have s7 := SZ7.out; have s8 := SZ8.out; have s9 := SZ9.out; have s10 := SZ10.out; have s11 := SZ11.out; omega))
  have K0_0_11 : Hid (w11.cell? ⟨w4.heap.size, 0, none⟩ = some (.slice VA0_0 xs0_0.length xs0_0.length)) := Lib.hid (Mv11.out.cell K0_0_10.out (by have s0 := SZ0.out; have s1 := SZ1.out; have s2 := SZ2.out; have s3 := SZ3.out; have s4 := SZ4.out; have s5 := SZ5.out; have s6 := SZ6.out; have s7 := SZ7.out; have s8 := SZ8.out; have s9 := SZ9.out; have s10 := SZ10.out; have s11 := SZ11.out; simp only; omega))
  have K0_1_11 : Hid (w11.cell? ⟨w4.heap.size, 1, none⟩ = some (.slice VA0_1 xs0_1.length xs0_1.length)) := Lib.hid (Mv11.out.cell K0_1_10.out (by have s0 := SZ0.out; have s1 := SZ1.out; have s2 := SZ2.out; have s3 := SZ3.out; have s4 := SZ4.out; have s5 := SZ5.out; have s6 := SZ6.out; have s7 := SZ7.out; have s8 := SZ8.out; have s9 := SZ9.out; have s10 := SZ10.out; have s11 := SZ11.out; simp only; omega))
  have K0_2_11 : Hid (w11.cell? ⟨w4.heap.size, 2, none⟩ = some (.int .i64 n0_2)) := Lib.hid (Mv11.out.cell K0_2_10.out (by have s0 := SZ0.out; have s1 := SZ1.out; have s2 := SZ2.out; have s3 := SZ3.out; have s4 := SZ4.out; have s5 := SZ5.out; have s6 := SZ6.out; have s7 := SZ7.out; have s8 := SZ8.out; have s9 := SZ9.out; have s10 := SZ10.out; have s11 := SZ11.out; simp only; omega))
  have K0_3_11 : Hid (w11.cell? ⟨w4.heap.size, 3, none⟩ = some (.bool n0_3)) := Lib.hid (Mv11.out.cell K0_3_10.out (by have s0 := SZ0.out; have s1 := SZ1.out; have s2 := SZ2.out; have s3 := SZ3.out; have s4 := SZ4.out; have s5 := SZ5.out; have s6 := SZ6.out; have s7 := SZ7.out; have s8 := SZ8.out; have s9 := SZ9.out; have s10 := SZ10.out; have s11 := SZ11.out; simp only; omega))
  have K0_4_11 : Hid (w11.cell? ⟨w4.heap.size, 4, none⟩ = some (.int .i64 n0_4)) := Lib.hid (Mv11.out.cell K0_4_10.out (by have s0 := SZ0.out; have s1 := SZ1.out; have s2 := SZ2.out; have s3 := SZ3.out; have s4 := SZ4.out; have s5 := SZ5.out; have s6 := SZ6.out; have s7 := SZ7.out; have s8 := SZ8.out; have s9 := SZ9.out; have s10 := SZ10.out; have s11 := SZ11.out; simp only; omega))
  have K0_5_11 : Hid (w11.cell? ⟨w4.heap.size, 5, none⟩ = some (.int .i64 n0_5)) := Lib.hid (Mv11.out.cell K0_5_10.out (by have s0 := SZ0.out; have s1 := SZ1.out; have s2 := SZ2.out; have s3 := SZ3.out; have s4 := SZ4.out; have s5 := SZ5.out; have s6 := SZ6.out; have s7 := SZ7.out; have s8 := SZ8.out; have s9 := SZ9.out; have s10 := SZ10.out; have s11 := SZ11.out; simp only; omega))
  have K0_6_11 : Hid (w11.cell? ⟨w4.heap.size, 6, none⟩ = some (.int .i64 n0_6)) := Lib.hid (Mv11.out.cell K0_6_10.out (by have s0 := SZ0.out; have s1 := SZ1.out; have s2 := SZ2.out; have s3 := SZ3.out; have s4 := SZ4.out; have s5 := SZ5.out; have s6 := SZ6.out; have s7 := SZ7.out; have s8 := SZ8.out; have s9 := SZ9.out; have s10 := SZ10.out; have s11 := SZ11.out; simp only; omega))
  have K0_7_11 : Hid (w11.cell? ⟨w4.heap.size, 7, none⟩ = some (.int .i64 n0_7)) := Lib.hid (Mv11.out.cell K0_7_10.out (by have s0 := SZ0.out; have s1 := SZ1.out; have s2 := SZ2.out; have s3 := SZ3.out; have s4 := SZ4.out; have s5 := SZ5.out; have s6 := SZ6.out; have s7 := SZ7.out; have s8 := SZ8.out; have s9 := SZ9.out; have s10 := SZ10.out; have s11 := SZ11.out; simp only; omega))
  have K0_8_11 : Hid (w11.cell? ⟨w4.heap.size, 8, none⟩ = some (.int .i64 n0_8)) := Lib.hid (Mv11.out.cell K0_8_10.out (by have s0 := SZ0.out; have s1 := SZ1.out; have s2 := SZ2.out; have s3 := SZ3.out; have s4 := SZ4.out; have s5 := SZ5.out; have s6 := SZ6.out; have s7 := SZ7.out; have s8 := SZ8.out; have s9 := SZ9.out; have s10 := SZ10.out; have s11 := SZ11.out; simp only; omega))
  have K0_9_11 : Hid (w11.cell? ⟨w4.heap.size, 9, none⟩ = some (.int .i64 n0_9)) := Lib.hid (Mv11.out.cell K0_9_10.out (by have s0 := SZ0.out; have s1 := SZ1.out; have s2 := SZ2.out; have s3 := SZ3.out; have s4 := SZ4.out; have s5 := SZ5.out; have s6 := SZ6.out; have s7 := SZ7.out; have s8 := SZ8.out; have s9 := SZ9.out; have s10 := SZ10.out; have s11 := SZ11.out; simp only; omega))
  have K0_10_11 : Hid (w11.cell? ⟨w4.heap.size, 10, none⟩ = some (.slice VA0_10 xs0_10.length xs0_10.length)) := Lib.hid (Mv11.out.cell K0_10_10.out (by have s0 := SZ0.out; have s1 := SZ1.out; have s2 := SZ2.out; have s3 := SZ3.out; have s4 := SZ4.out; have s5 := SZ5.out; have s6 := SZ6.out; have s7 := SZ7.out; have s8 := SZ8.out; have s9 := SZ9.out; have s10 := SZ10.out; have s11 := SZ11.out; simp only; omega))
  have K0_11_11 : Hid (w11.cell? ⟨w4.heap.size, 11, none⟩ = some (.slice VA0_11 xs0_11.length xs0_11.length)) := Lib.hid (Mv11.out.cell K0_11_10.out (by have s0 := SZ0.out; have s1 := SZ1.out; have s2 := SZ2.out; have s3 := SZ3.out; have s4 := SZ4.out; have s5 := SZ5.out; have s6 := SZ6.out; have s7 := SZ7.out; have s8 := SZ8.out; have s9 := SZ9.out; have s10 := SZ10.out; have s11 := SZ11.out; simp only; omega))
  have HB11 : Hid (Below w.heap.size w w11) := Lib.hid (Mv11.out.below HB10.out (by have s0 := SZ0.out; have s1 := SZ1.out; have s2 := SZ2.out; have s3 := SZ3.out; have s4 := SZ4.out; have s5 := SZ5.out; have s6 := SZ6.out; have s7 := SZ7.out; have s8 := SZ8.out; have s9 := SZ9.out; have s10 := SZ10.out; have s11 := SZ11.out; omega) HB10.out.size)
  have OY_11 : Hid (OR w11 w5.heap.size (.slice YA D.length Yc) (marksR 1 D.length)) := Lib.hid oa; clear oa gr
  have neg_m2 : ¬ (((1 + 2 * D.length : Nat) : Int) < 0) := by omega
  have qF0_0 := F0_0_11.out
  have qF0_1 := F0_1_11.out
  have qF0_2 := F0_2_11.out
  have qF0_3 := F0_3_11.out
  have qF0_4 := F0_4_11.out
  have qF0_5 := F0_5_11.out
  have qF0_6 := F0_6_11.out
  have qF0_7 := F0_7_11.out
  have qF0_8 := F0_8_11.out
  have qF0_9 := F0_9_11.out
  have qF0_10 := F0_10_11.out
  have qF0_11 := F0_11_11.out
  have qK0_0 := K0_0_11.out
  have qK0_1 := K0_1_11.out
  have qK0_2 := K0_2_11.out
  have qK0_3 := K0_3_11.out
  have qK0_4 := K0_4_11.out
  have qK0_5 := K0_5_11.out
  have qK0_6 := K0_6_11.out
  have qK0_7 := K0_7_11.out
  have qK0_8 := K0_8_11.out
  have qK0_9 := K0_9_11.out
  have qK0_10 := K0_10_11.out
  have qK0_11 := K0_11_11.out
  go_wp2_with fail
  clear qF0_0 qF0_1 qF0_2 qF0_3 qF0_4 qF0_5 qF0_6 qF0_7 qF0_8 qF0_9 qF0_10 qF0_11 qK0_0 qK0_1 qK0_2 qK0_3 qK0_4 qK0_5 qK0_6 qK0_7 qK0_8 qK0_9 qK0_10 qK0_11
  refine (heldR_any 1 OY_11.out (by omega) (by have h1 := OKD.out.2; omega)).mono ?_
  rintro e w12 ⟨rfl, g⟩
  have G12 := Lib.hid g; have SZ12 : Hid (w11.heap.size ≤ w12.heap.size) := Lib.hid g.size; clear g
  have F0_0_12 : Hid (w12.cell? ⟨w.heap.size, 0, none⟩ = some (.slice A0_0 xs0_0.length c0_0)) := Lib.hid (oldM G12.out F0_0_11.out)
  have F0_1_12 : Hid (w12.cell? ⟨w.heap.size, 1, none⟩ = some (.slice A0_1 xs0_1.length c0_1)) := Lib.hid (oldM G12.out F0_1_11.out)
  have F0_2_12 : Hid (w12.cell? ⟨w.heap.size, 2, none⟩ = some (.int .i64 n0_2)) := Lib.hid (oldM G12.out F0_2_11.out)
  have F0_3_12 : Hid (w12.cell? ⟨w.heap.size, 3, none⟩ = some (.bool n0_3)) := Lib.hid (oldM G12.out F0_3_11.out)
  have F0_4_12 : Hid (w12.cell? ⟨w.heap.size, 4, none⟩ = some (.int .i64 n0_4)) := Lib.hid (oldM G12.out F0_4_11.out)
  have F0_5_12 : Hid (w12.cell? ⟨w.heap.size, 5, none⟩ = some (.int .i64 n0_5)) := Lib.hid (oldM G12.out F0_5_11.out)
  have F0_6_12 : Hid (w12.cell? ⟨w.heap.size, 6, none⟩ = some (.int .i64 n0_6)) := Lib.hid (oldM G12.out F0_6_11.out)
  have F0_7_12 : Hid (w12.cell? ⟨w.heap.size, 7, none⟩ = some (.int .i64 n0_7)) := Lib.hid (oldM G12.out F0_7_11.out)
  have F0_8_12 : Hid (w12.cell? ⟨w.heap.size, 8, none⟩ = some (.int .i64 n0_8)) := Lib.hid (oldM G12.out F0_8_11.out)
  have F0_9_12 : Hid (w12.cell? ⟨w.heap.size, 9, none⟩ = some (.int .i64 n0_9)) := Lib.hid (oldM G12.out F0_9_11.out)
  have F0_10_12 : Hid (w12.cell? ⟨w.heap.size, 10, none⟩ = some (.slice A0_10 xs0_10.length c0_10)) := Lib.hid (oldM G12.out F0_10_11.out)
  have F0_11_12 : Hid (w12.cell? ⟨w.heap.size, 11, none⟩ = some (.slice A0_11 xs0_11.length c0_11)) := Lib.hid (oldM G12.out F0_11_11.out)
  have OZ_12 : Hid (OR w12 w2.heap.size (.slice ZA D.length Zc) D) := Lib.hid (own_bel OZ_11.out G12.out)
  have K0_0_12 : Hid (w12.cell? ⟨w4.heap.size, 0, none⟩ = some (.slice VA0_0 xs0_0.length xs0_0.length)) := Lib.hid (oldM G12.out K0_0_11.out)
  have K0_1_12 : Hid (w12.cell? ⟨w4.heap.size, 1, none⟩ = some (.slice VA0_1 xs0_1.length xs0_1.length)) := Lib.hid (oldM G12.out K0_1_11.out)
  have K0_2_12 : Hid (w12.cell? ⟨w4.heap.size, 2, none⟩ = some (.int .i64 n0_2)) := Lib.hid (oldM G12.out K0_2_11.out)
  have K0_3_12 : Hid (w12.cell? ⟨w4.heap.size, 3, none⟩ = some (.bool n0_3)) := Lib.hid (oldM G12.out K0_3_11.out)
  have K0_4_12 : Hid (w12.cell? ⟨w4.heap.size, 4, none⟩ = some (.int .i64 n0_4)) := Lib.hid (oldM G12.out K0_4_11.out)
  have K0_5_12 : Hid (w12.cell? ⟨w4.heap.size, 5, none⟩ = some (.int .i64 n0_5)) := Lib.hid (oldM G12.out K0_5_11.out)
  have K0_6_12 : Hid (w12.cell? ⟨w4.heap.size, 6, none⟩ = some (.int .i64 n0_6)) := Lib.hid (oldM G12.out K0_6_11.out)
  have K0_7_12 : Hid (w12.cell? ⟨w4.heap.size, 7, none⟩ = some (.int .i64 n0_7)) := Lib.hid (oldM G12.out K0_7_11.out)
  have K0_8_12 : Hid (w12.cell? ⟨w4.heap.size, 8, none⟩ = some (.int .i64 n0_8)) := Lib.hid (oldM G12.out K0_8_11.out)
  have K0_9_12 : Hid (w12.cell? ⟨w4.heap.size, 9, none⟩ = some (.int .i64 n0_9)) := Lib.hid (oldM G12.out K0_9_11.out)
  have K0_10_12 : Hid (w12.cell? ⟨w4.heap.size, 10, none⟩ = some (.slice VA0_10 xs0_10.length xs0_10.length)) := Lib.hid (oldM G12.out K0_10_11.out)
  have K0_11_12 : Hid (w12.cell? ⟨w4.heap.size, 11, none⟩ = some (.slice VA0_11 xs0_11.length xs0_11.length)) := Lib.hid (oldM G12.out K0_11_11.out)
  have OY_12 : Hid (OR w12 w5.heap.size (.slice YA D.length Yc) (marksR 1 D.length)) := Lib.hid (own_bel OY_11.out G12.out)
  have HB12 : Hid (Below w.heap.size w w12) := Lib.hid (HB11.out.trans (G12.out.mono HB11.out.size))
  have qF0_0 := F0_0_12.out
  have qF0_1 := F0_1_12.out
  have qF0_2 := F0_2_12.out
  have qF0_3 := F0_3_12.out
  have qF0_4 := F0_4_12.out
  have qF0_5 := F0_5_12.out
  have qF0_6 := F0_6_12.out
  have qF0_7 := F0_7_12.out
  have qF0_8 := F0_8_12.out
  have qF0_9 := F0_9_12.out
  have qF0_10 := F0_10_12.out
  have qF0_11 := F0_11_12.out
  have qK0_0 := K0_0_12.out
  have qK0_1 := K0_1_12.out
  have qK0_2 := K0_2_12.out
  have qK0_3 := K0_3_12.out
  have qK0_4 := K0_4_12.out
  have qK0_5 := K0_5_12.out
  have qK0_6 := K0_6_12.out
  have qK0_7 := K0_7_12.out
  have qK0_8 := K0_8_12.out
  have qK0_9 := K0_9_12.out
  have qK0_10 := K0_10_12.out
  have qK0_11 := K0_11_12.out
  go_wp2_with fail
  clear qF0_0 qF0_1 qF0_2 qF0_3 qF0_4 qF0_5 qF0_6 qF0_7 qF0_8 qF0_9 qF0_10 qF0_11 qK0_0 qK0_1 qK0_2 qK0_3 qK0_4 qK0_5 qK0_6 qK0_7 qK0_8 qK0_9 qK0_10 qK0_11
  refine (toPager2_any (H0_0.out.at (Nat.le_refl _) HB12.out) (H0_1.out.at (Nat.le_refl _) HB12.out) (H0_10.out.at (Nat.le_refl _) HB12.out) (H0_11.out.at (Nat.le_refl _) HB12.out) (Nat.le_refl _) SM0.out).mono ?_
  rintro e w13 ⟨EA0_0, EA0_1, EA0_10, EA0_11, Ep1, Ep2, rfl, oo0, oo1, oo10, oo11, Eap0, Ewi0, Ewi1, Ewi10, Ewi11, Eod0, Eod1, Eod2, g⟩
  have G13 := Lib.hid g; have SZ13 : Hid (w12.heap.size ≤ w13.heap.size) := Lib.hid g.size; clear g
  have F0_0_13 : Hid (w13.cell? ⟨w.heap.size, 0, none⟩ = some (.slice A0_0 xs0_0.length c0_0)) := Lib.hid (oldM G13.out F0_0_12.out)
  have F0_1_13 : Hid (w13.cell? ⟨w.heap.size, 1, none⟩ = some (.slice A0_1 xs0_1.length c0_1)) := Lib.hid (oldM G13.out F0_1_12.out)
  have F0_2_13 : Hid (w13.cell? ⟨w.heap.size, 2, none⟩ = some (.int .i64 n0_2)) := Lib.hid (oldM G13.out F0_2_12.out)
  have F0_3_13 : Hid (w13.cell? ⟨w.heap.size, 3, none⟩ = some (.bool n0_3)) := Lib.hid (oldM G13.out F0_3_12.out)
  have F0_4_13 : Hid (w13.cell? ⟨w.heap.size, 4, none⟩ = some (.int .i64 n0_4)) := Lib.hid (oldM G13.out F0_4_12.out)
  have F0_5_13 : Hid (w13.cell? ⟨w.heap.size, 5, none⟩ = some (.int .i64 n0_5)) := Lib.hid (oldM G13.out F0_5_12.out)
  have F0_6_13 : Hid (w13.cell? ⟨w.heap.size, 6, none⟩ = some (.int .i64 n0_6)) := Lib.hid (oldM G13.out F0_6_12.out)
  have F0_7_13 : Hid (w13.cell? ⟨w.heap.size, 7, none⟩ = some (.int .i64 n0_7)) := Lib.hid (oldM G13.out F0_7_12.out)
  have F0_8_13 : Hid (w13.cell? ⟨w.heap.size, 8, none⟩ = some (.int .i64 n0_8)) := Lib.hid (oldM G13.out F0_8_12.out)
  have F0_9_13 : Hid (w13.cell? ⟨w.heap.size, 9, none⟩ = some (.int .i64 n0_9)) := Lib.hid (oldM G13.out F0_9_12.out)
  have F0_10_13 : Hid (w13.cell? ⟨w.heap.size, 10, none⟩ = some (.slice A0_10 xs0_10.length c0_10)) := Lib.hid (oldM G13.out F0_10_12.out)
  have F0_11_13 : Hid (w13.cell? ⟨w.heap.size, 11, none⟩ = some (.slice A0_11 xs0_11.length c0_11)) := Lib.hid (oldM G13.out F0_11_12.out)
  have OZ_13 : Hid (OR w13 w2.heap.size (.slice ZA D.length Zc) D) := Lib.hid (own_bel OZ_12.out G13.out)
  have K0_0_13 : Hid (w13.cell? ⟨w4.heap.size, 0, none⟩ = some (.slice VA0_0 xs0_0.length xs0_0.length)) := Lib.hid (oldM G13.out K0_0_12.out)
  have K0_1_13 : Hid (w13.cell? ⟨w4.heap.size, 1, none⟩ = some (.slice VA0_1 xs0_1.length xs0_1.length)) := Lib.hid (oldM G13.out K0_1_12.out)
  have K0_2_13 : Hid (w13.cell? ⟨w4.heap.size, 2, none⟩ = some (.int .i64 n0_2)) := Lib.hid (oldM G13.out K0_2_12.out)
  have K0_3_13 : Hid (w13.cell? ⟨w4.heap.size, 3, none⟩ = some (.bool n0_3)) := Lib.hid (oldM G13.out K0_3_12.out)
  have K0_4_13 : Hid (w13.cell? ⟨w4.heap.size, 4, none⟩ = some (.int .i64 n0_4)) := Lib.hid (oldM G13.out K0_4_12.out)
  have K0_5_13 : Hid (w13.cell? ⟨w4.heap.size, 5, none⟩ = some (.int .i64 n0_5)) := Lib.hid (oldM G13.out K0_5_12.out)
  have K0_6_13 : Hid (w13.cell? ⟨w4.heap.size, 6, none⟩ = some (.int .i64 n0_6)) := Lib.hid (oldM G13.out K0_6_12.out)
  have K0_7_13 : Hid (w13.cell? ⟨w4.heap.size, 7, none⟩ = some (.int .i64 n0_7)) := Lib.hid (oldM G13.out K0_7_12.out)
  have K0_8_13 : Hid (w13.cell? ⟨w4.heap.size, 8, none⟩ = some (.int .i64 n0_8)) := Lib.hid (oldM G13.out K0_8_12.out)
  have K0_9_13 : Hid (w13.cell? ⟨w4.heap.size, 9, none⟩ = some (.int .i64 n0_9)) := Lib.hid (oldM G13.out K0_9_12.out)
  have K0_10_13 : Hid (w13.cell? ⟨w4.heap.size, 10, none⟩ = some (.slice VA0_10 xs0_10.length xs0_10.length)) := Lib.hid (oldM G13.out K0_10_12.out)
  have K0_11_13 : Hid (w13.cell? ⟨w4.heap.size, 11, none⟩ = some (.slice VA0_11 xs0_11.length xs0_11.length)) := Lib.hid (oldM G13.out K0_11_12.out)
  have OY_13 : Hid (OR w13 w5.heap.size (.slice YA D.length Yc) (marksR 1 D.length)) := Lib.hid (own_bel OY_12.out G13.out)
  have HB13 : Hid (Below w.heap.size w w13) := Lib.hid (HB12.out.trans (G13.out.mono HB12.out.size))
  have OE0_0_13 : Hid (OT w13 w12.heap.size (.slice EA0_0 xs0_0.length xs0_0.length) xs0_0) := Lib.hid oo0; clear oo0
  have IE0_0 := Lib.hid (own_wi OE0_0_13.out)
  have OE0_1_13 : Hid (OU w13 w12.heap.size (.slice EA0_1 xs0_1.length xs0_1.length) xs0_1) := Lib.hid oo1; clear oo1
  have IE0_1 := Lib.hid (own_wi OE0_1_13.out)
  have OE0_10_13 : Hid (OG w13 w12.heap.size (.slice EA0_10 xs0_10.length xs0_10.length) xs0_10) := Lib.hid oo10; clear oo10
  have IE0_10 := Lib.hid (own_wi OE0_10_13.out)
  have OE0_11_13 : Hid (OG w13 w12.heap.size (.slice EA0_11 xs0_11.length xs0_11.length) xs0_11) := Lib.hid oo11; clear oo11
  have IE0_11 := Lib.hid (own_wi OE0_11_13.out)
  have KEap0 := Lib.hid Eap0; clear Eap0
  have KEwi0 := Lib.hid Ewi0; clear Ewi0
  have KEwi1 := Lib.hid Ewi1; clear Ewi1
  have KEwi10 := Lib.hid Ewi10; clear Ewi10
  have KEwi11 := Lib.hid Ewi11; clear Ewi11
  have KEod0 := Lib.hid Eod0; clear Eod0
  have KEod1 := Lib.hid Eod1; clear Eod1
  have KEod2 := Lib.hid Eod2; clear Eod2
  have qF0_0 := F0_0_13.out
  have qF0_1 := F0_1_13.out
  have qF0_2 := F0_2_13.out
  have qF0_3 := F0_3_13.out
  have qF0_4 := F0_4_13.out
  have qF0_5 := F0_5_13.out
  have qF0_6 := F0_6_13.out
  have qF0_7 := F0_7_13.out
  have qF0_8 := F0_8_13.out
  have qF0_9 := F0_9_13.out
  have qF0_10 := F0_10_13.out
  have qF0_11 := F0_11_13.out
  have qK0_0 := K0_0_13.out
  have qK0_1 := K0_1_13.out
  have qK0_2 := K0_2_13.out
  have qK0_3 := K0_3_13.out
  have qK0_4 := K0_4_13.out
  have qK0_5 := K0_5_13.out
  have qK0_6 := K0_6_13.out
  have qK0_7 := K0_7_13.out
  have qK0_8 := K0_8_13.out
  have qK0_9 := K0_9_13.out
  have qK0_10 := K0_10_13.out
  have qK0_11 := K0_11_13.out
  go_wp2_with fail
  clear qF0_0 qF0_1 qF0_2 qF0_3 qF0_4 qF0_5 qF0_6 qF0_7 qF0_8 qF0_9 qF0_10 qF0_11 qK0_0 qK0_1 qK0_2 qK0_3 qK0_4 qK0_5 qK0_6 qK0_7 qK0_8 qK0_9 qK0_10 qK0_11
  refine (P0.out w13 _ _ _ _ (OE0_0_13.out.rit H0_0.out.inT) (OE0_1_13.out.riu H0_1.out.wf) (OE0_10_13.out.riu H0_10.out.wf) (OE0_11_13.out.riu H0_11.out.wf)).mono ?_
  rintro e w14 ⟨Cv, rfl, oa, g⟩
  have G14 := Lib.hid g; have SZ14 : Hid (w13.heap.size ≤ w14.heap.size) := Lib.hid g.size; clear g
  have F0_0_14 : Hid (w14.cell? ⟨w.heap.size, 0, none⟩ = some (.slice A0_0 xs0_0.length c0_0)) := Lib.hid (oldM G14.out F0_0_13.out)
  have F0_1_14 : Hid (w14.cell? ⟨w.heap.size, 1, none⟩ = some (.slice A0_1 xs0_1.length c0_1)) := Lib.hid (oldM G14.out F0_1_13.out)
  have F0_2_14 : Hid (w14.cell? ⟨w.heap.size, 2, none⟩ = some (.int .i64 n0_2)) := Lib.hid (oldM G14.out F0_2_13.out)
  have F0_3_14 : Hid (w14.cell? ⟨w.heap.size, 3, none⟩ = some (.bool n0_3)) := Lib.hid (oldM G14.out F0_3_13.out)
  have F0_4_14 : Hid (w14.cell? ⟨w.heap.size, 4, none⟩ = some (.int .i64 n0_4)) := Lib.hid (oldM G14.out F0_4_13.out)
  have F0_5_14 : Hid (w14.cell? ⟨w.heap.size, 5, none⟩ = some (.int .i64 n0_5)) := Lib.hid (oldM G14.out F0_5_13.out)
  have F0_6_14 : Hid (w14.cell? ⟨w.heap.size, 6, none⟩ = some (.int .i64 n0_6)) := Lib.hid (oldM G14.out F0_6_13.out)
  have F0_7_14 : Hid (w14.cell? ⟨w.heap.size, 7, none⟩ = some (.int .i64 n0_7)) := Lib.hid (oldM G14.out F0_7_13.out)
  have F0_8_14 : Hid (w14.cell? ⟨w.heap.size, 8, none⟩ = some (.int .i64 n0_8)) := Lib.hid (oldM G14.out F0_8_13.out)
  have F0_9_14 : Hid (w14.cell? ⟨w.heap.size, 9, none⟩ = some (.int .i64 n0_9)) := Lib.hid (oldM G14.out F0_9_13.out)
  have F0_10_14 : Hid (w14.cell? ⟨w.heap.size, 10, none⟩ = some (.slice A0_10 xs0_10.length c0_10)) := Lib.hid (oldM G14.out F0_10_13.out)
  have F0_11_14 : Hid (w14.cell? ⟨w.heap.size, 11, none⟩ = some (.slice A0_11 xs0_11.length c0_11)) := Lib.hid (oldM G14.out F0_11_13.out)
  have OZ_14 : Hid (OR w14 w2.heap.size (.slice ZA D.length Zc) D) := Lib.hid (own_bel OZ_13.out G14.out)
  have K0_0_14 : Hid (w14.cell? ⟨w4.heap.size, 0, none⟩ = some (.slice VA0_0 xs0_0.length xs0_0.length)) := Lib.hid (oldM G14.out K0_0_13.out)
  have K0_1_14 : Hid (w14.cell? ⟨w4.heap.size, 1, none⟩ = some (.slice VA0_1 xs0_1.length xs0_1.length)) := Lib.hid (oldM G14.out K0_1_13.out)
  have K0_2_14 : Hid (w14.cell? ⟨w4.heap.size, 2, none⟩ = some (.int .i64 n0_2)) := Lib.hid (oldM G14.out K0_2_13.out)
  have K0_3_14 : Hid (w14.cell? ⟨w4.heap.size, 3, none⟩ = some (.bool n0_3)) := Lib.hid (oldM G14.out K0_3_13.out)
  have K0_4_14 : Hid (w14.cell? ⟨w4.heap.size, 4, none⟩ = some (.int .i64 n0_4)) := Lib.hid (oldM G14.out K0_4_13.out)
  have K0_5_14 : Hid (w14.cell? ⟨w4.heap.size, 5, none⟩ = some (.int .i64 n0_5)) := Lib.hid (oldM G14.out K0_5_13.out)
  have K0_6_14 : Hid (w14.cell? ⟨w4.heap.size, 6, none⟩ = some (.int .i64 n0_6)) := Lib.hid (oldM G14.out K0_6_13.out)
  have K0_7_14 : Hid (w14.cell? ⟨w4.heap.size, 7, none⟩ = some (.int .i64 n0_7)) := Lib.hid (oldM G14.out K0_7_13.out)
  have K0_8_14 : Hid (w14.cell? ⟨w4.heap.size, 8, none⟩ = some (.int .i64 n0_8)) := Lib.hid (oldM G14.out K0_8_13.out)
  have K0_9_14 : Hid (w14.cell? ⟨w4.heap.size, 9, none⟩ = some (.int .i64 n0_9)) := Lib.hid (oldM G14.out K0_9_13.out)
  have K0_10_14 : Hid (w14.cell? ⟨w4.heap.size, 10, none⟩ = some (.slice VA0_10 xs0_10.length xs0_10.length)) := Lib.hid (oldM G14.out K0_10_13.out)
  have K0_11_14 : Hid (w14.cell? ⟨w4.heap.size, 11, none⟩ = some (.slice VA0_11 xs0_11.length xs0_11.length)) := Lib.hid (oldM G14.out K0_11_13.out)
  have OY_14 : Hid (OR w14 w5.heap.size (.slice YA D.length Yc) (marksR 1 D.length)) := Lib.hid (own_bel OY_13.out G14.out)
  have OE0_0_14 : Hid (OT w14 w12.heap.size (.slice EA0_0 xs0_0.length xs0_0.length) xs0_0) := Lib.hid (own_bel OE0_0_13.out G14.out)
  have OE0_1_14 : Hid (OU w14 w12.heap.size (.slice EA0_1 xs0_1.length xs0_1.length) xs0_1) := Lib.hid (own_bel OE0_1_13.out G14.out)
  have OE0_10_14 : Hid (OG w14 w12.heap.size (.slice EA0_10 xs0_10.length xs0_10.length) xs0_10) := Lib.hid (own_bel OE0_10_13.out G14.out)
  have OE0_11_14 : Hid (OG w14 w12.heap.size (.slice EA0_11 xs0_11.length xs0_11.length) xs0_11) := Lib.hid (own_bel OE0_11_13.out G14.out)
  have HB14 : Hid (Below w.heap.size w w14) := Lib.hid (HB13.out.trans (G14.out.mono HB13.out.size))
  obtain ⟨CA, Cc, rfl⟩ := OR.opened oa
  have OC_14 : Hid (OR w14 w13.heap.size (.slice CA D.length Cc) D) := Lib.hid oa; clear oa
  have IC := Lib.hid (own_wi OC_14.out)
  have qF0_0 := F0_0_14.out
  have qF0_1 := F0_1_14.out
  have qF0_2 := F0_2_14.out
  have qF0_3 := F0_3_14.out
  have qF0_4 := F0_4_14.out
  have qF0_5 := F0_5_14.out
  have qF0_6 := F0_6_14.out
  have qF0_7 := F0_7_14.out
  have qF0_8 := F0_8_14.out
  have qF0_9 := F0_9_14.out
  have qF0_10 := F0_10_14.out
  have qF0_11 := F0_11_14.out
  have qK0_0 := K0_0_14.out
  have qK0_1 := K0_1_14.out
  have qK0_2 := K0_2_14.out
  have qK0_3 := K0_3_14.out
  have qK0_4 := K0_4_14.out
  have qK0_5 := K0_5_14.out
  have qK0_6 := K0_6_14.out
  have qK0_7 := K0_7_14.out
  have qK0_8 := K0_8_14.out
  have qK0_9 := K0_9_14.out
  have qK0_10 := K0_10_14.out
  have qK0_11 := K0_11_14.out
  go_wp2_with fail
  clear qF0_0 qF0_1 qF0_2 qF0_3 qF0_4 qF0_5 qF0_6 qF0_7 qF0_8 qF0_9 qF0_10 qF0_11 qK0_0 qK0_1 qK0_2 qK0_3 qK0_4 qK0_5 qK0_6 qK0_7 qK0_8 qK0_9 qK0_10 qK0_11
  refine (eqRuns_any (OC_14.out.ri OKD.out.1) (OZ_14.out.ri OKD.out.1) (Nat.le_refl _)).mono ?_
  rintro e w15 ⟨rfl, g⟩
  have G15 := Lib.hid g; have SZ15 : Hid (w14.heap.size ≤ w15.heap.size) := Lib.hid g.size; clear g
  have F0_0_15 : Hid (w15.cell? ⟨w.heap.size, 0, none⟩ = some (.slice A0_0 xs0_0.length c0_0)) := Lib.hid (oldM G15.out F0_0_14.out)
  have F0_1_15 : Hid (w15.cell? ⟨w.heap.size, 1, none⟩ = some (.slice A0_1 xs0_1.length c0_1)) := Lib.hid (oldM G15.out F0_1_14.out)
  have F0_2_15 : Hid (w15.cell? ⟨w.heap.size, 2, none⟩ = some (.int .i64 n0_2)) := Lib.hid (oldM G15.out F0_2_14.out)
  have F0_3_15 : Hid (w15.cell? ⟨w.heap.size, 3, none⟩ = some (.bool n0_3)) := Lib.hid (oldM G15.out F0_3_14.out)
  have F0_4_15 : Hid (w15.cell? ⟨w.heap.size, 4, none⟩ = some (.int .i64 n0_4)) := Lib.hid (oldM G15.out F0_4_14.out)
  have F0_5_15 : Hid (w15.cell? ⟨w.heap.size, 5, none⟩ = some (.int .i64 n0_5)) := Lib.hid (oldM G15.out F0_5_14.out)
  have F0_6_15 : Hid (w15.cell? ⟨w.heap.size, 6, none⟩ = some (.int .i64 n0_6)) := Lib.hid (oldM G15.out F0_6_14.out)
  have F0_7_15 : Hid (w15.cell? ⟨w.heap.size, 7, none⟩ = some (.int .i64 n0_7)) := Lib.hid (oldM G15.out F0_7_14.out)
  have F0_8_15 : Hid (w15.cell? ⟨w.heap.size, 8, none⟩ = some (.int .i64 n0_8)) := Lib.hid (oldM G15.out F0_8_14.out)
  have F0_9_15 : Hid (w15.cell? ⟨w.heap.size, 9, none⟩ = some (.int .i64 n0_9)) := Lib.hid (oldM G15.out F0_9_14.out)
  have F0_10_15 : Hid (w15.cell? ⟨w.heap.size, 10, none⟩ = some (.slice A0_10 xs0_10.length c0_10)) := Lib.hid (oldM G15.out F0_10_14.out)
  have F0_11_15 : Hid (w15.cell? ⟨w.heap.size, 11, none⟩ = some (.slice A0_11 xs0_11.length c0_11)) := Lib.hid (oldM G15.out F0_11_14.out)
  have OZ_15 : Hid (OR w15 w2.heap.size (.slice ZA D.length Zc) D) := Lib.hid (own_bel OZ_14.out G15.out)
  have K0_0_15 : Hid (w15.cell? ⟨w4.heap.size, 0, none⟩ = some (.slice VA0_0 xs0_0.length xs0_0.length)) := Lib.hid (oldM G15.out K0_0_14.out)
  have K0_1_15 : Hid (w15.cell? ⟨w4.heap.size, 1, none⟩ = some (.slice VA0_1 xs0_1.length xs0_1.length)) := Lib.hid (oldM G15.out K0_1_14.out)
  have K0_2_15 : Hid (w15.cell? ⟨w4.heap.size, 2, none⟩ = some (.int .i64 n0_2)) := Lib.hid (oldM G15.out K0_2_14.out)
  have K0_3_15 : Hid (w15.cell? ⟨w4.heap.size, 3, none⟩ = some (.bool n0_3)) := Lib.hid (oldM G15.out K0_3_14.out)
  have K0_4_15 : Hid (w15.cell? ⟨w4.heap.size, 4, none⟩ = some (.int .i64 n0_4)) := Lib.hid (oldM G15.out K0_4_14.out)
  have K0_5_15 : Hid (w15.cell? ⟨w4.heap.size, 5, none⟩ = some (.int .i64 n0_5)) := Lib.hid (oldM G15.out K0_5_14.out)
  have K0_6_15 : Hid (w15.cell? ⟨w4.heap.size, 6, none⟩ = some (.int .i64 n0_6)) := Lib.hid (oldM G15.out K0_6_14.out)
  have K0_7_15 : Hid (w15.cell? ⟨w4.heap.size, 7, none⟩ = some (.int .i64 n0_7)) := Lib.hid (oldM G15.out K0_7_14.out)
  have K0_8_15 : Hid (w15.cell? ⟨w4.heap.size, 8, none⟩ = some (.int .i64 n0_8)) := Lib.hid (oldM G15.out K0_8_14.out)
  have K0_9_15 : Hid (w15.cell? ⟨w4.heap.size, 9, none⟩ = some (.int .i64 n0_9)) := Lib.hid (oldM G15.out K0_9_14.out)
  have K0_10_15 : Hid (w15.cell? ⟨w4.heap.size, 10, none⟩ = some (.slice VA0_10 xs0_10.length xs0_10.length)) := Lib.hid (oldM G15.out K0_10_14.out)
  have K0_11_15 : Hid (w15.cell? ⟨w4.heap.size, 11, none⟩ = some (.slice VA0_11 xs0_11.length xs0_11.length)) := Lib.hid (oldM G15.out K0_11_14.out)
  have OY_15 : Hid (OR w15 w5.heap.size (.slice YA D.length Yc) (marksR 1 D.length)) := Lib.hid (own_bel OY_14.out G15.out)
  have OC_15 : Hid (OR w15 w13.heap.size (.slice CA D.length Cc) D) := Lib.hid (own_bel OC_14.out G15.out)
  have HB15 : Hid (Below w.heap.size w w15) := Lib.hid (HB14.out.trans (G15.out.mono HB14.out.size))
  have qF0_0 := F0_0_15.out
  have qF0_1 := F0_1_15.out
  have qF0_2 := F0_2_15.out
  have qF0_3 := F0_3_15.out
  have qF0_4 := F0_4_15.out
  have qF0_5 := F0_5_15.out
  have qF0_6 := F0_6_15.out
  have qF0_7 := F0_7_15.out
  have qF0_8 := F0_8_15.out
  have qF0_9 := F0_9_15.out
  have qF0_10 := F0_10_15.out
  have qF0_11 := F0_11_15.out
  have qK0_0 := K0_0_15.out
  have qK0_1 := K0_1_15.out
  have qK0_2 := K0_2_15.out
  have qK0_3 := K0_3_15.out
  have qK0_4 := K0_4_15.out
  have qK0_5 := K0_5_15.out
  have qK0_6 := K0_6_15.out
  have qK0_7 := K0_7_15.out
  have qK0_8 := K0_8_15.out
  have qK0_9 := K0_9_15.out
  have qK0_10 := K0_10_15.out
  have qK0_11 := K0_11_15.out
  go_wp2_with fail
  clear qF0_0 qF0_1 qF0_2 qF0_3 qF0_4 qF0_5 qF0_6 qF0_7 qF0_8 qF0_9 qF0_10 qF0_11 qK0_0 qK0_1 qK0_2 qK0_3 qK0_4 qK0_5 qK0_6 qK0_7 qK0_8 qK0_9 qK0_10 qK0_11
  refine (heldR_any 1 OY_15.out (by omega) (by have h1 := OKD.out.2; omega)).mono ?_
  rintro e w16 ⟨rfl, g⟩
  have G16 := Lib.hid g; have SZ16 : Hid (w15.heap.size ≤ w16.heap.size) := Lib.hid g.size; clear g
  have F0_0_16 : Hid (w16.cell? ⟨w.heap.size, 0, none⟩ = some (.slice A0_0 xs0_0.length c0_0)) := Lib.hid (oldM G16.out F0_0_15.out)
  have F0_1_16 : Hid (w16.cell? ⟨w.heap.size, 1, none⟩ = some (.slice A0_1 xs0_1.length c0_1)) := Lib.hid (oldM G16.out F0_1_15.out)
  have F0_2_16 : Hid (w16.cell? ⟨w.heap.size, 2, none⟩ = some (.int .i64 n0_2)) := Lib.hid (oldM G16.out F0_2_15.out)
  have F0_3_16 : Hid (w16.cell? ⟨w.heap.size, 3, none⟩ = some (.bool n0_3)) := Lib.hid (oldM G16.out F0_3_15.out)
  have F0_4_16 : Hid (w16.cell? ⟨w.heap.size, 4, none⟩ = some (.int .i64 n0_4)) := Lib.hid (oldM G16.out F0_4_15.out)
  have F0_5_16 : Hid (w16.cell? ⟨w.heap.size, 5, none⟩ = some (.int .i64 n0_5)) := Lib.hid (oldM G16.out F0_5_15.out)
  have F0_6_16 : Hid (w16.cell? ⟨w.heap.size, 6, none⟩ = some (.int .i64 n0_6)) := Lib.hid (oldM G16.out F0_6_15.out)
  have F0_7_16 : Hid (w16.cell? ⟨w.heap.size, 7, none⟩ = some (.int .i64 n0_7)) := Lib.hid (oldM G16.out F0_7_15.out)
  have F0_8_16 : Hid (w16.cell? ⟨w.heap.size, 8, none⟩ = some (.int .i64 n0_8)) := Lib.hid (oldM G16.out F0_8_15.out)
  have F0_9_16 : Hid (w16.cell? ⟨w.heap.size, 9, none⟩ = some (.int .i64 n0_9)) := Lib.hid (oldM G16.out F0_9_15.out)
  have F0_10_16 : Hid (w16.cell? ⟨w.heap.size, 10, none⟩ = some (.slice A0_10 xs0_10.length c0_10)) := Lib.hid (oldM G16.out F0_10_15.out)
  have F0_11_16 : Hid (w16.cell? ⟨w.heap.size, 11, none⟩ = some (.slice A0_11 xs0_11.length c0_11)) := Lib.hid (oldM G16.out F0_11_15.out)
  have OZ_16 : Hid (OR w16 w2.heap.size (.slice ZA D.length Zc) D) := Lib.hid (own_bel OZ_15.out G16.out)
  have K0_0_16 : Hid (w16.cell? ⟨w4.heap.size, 0, none⟩ = some (.slice VA0_0 xs0_0.length xs0_0.length)) := Lib.hid (oldM G16.out K0_0_15.out)
  have K0_1_16 : Hid (w16.cell? ⟨w4.heap.size, 1, none⟩ = some (.slice VA0_1 xs0_1.length xs0_1.length)) := Lib.hid (oldM G16.out K0_1_15.out)
  have K0_2_16 : Hid (w16.cell? ⟨w4.heap.size, 2, none⟩ = some (.int .i64 n0_2)) := Lib.hid (oldM G16.out K0_2_15.out)
  have K0_3_16 : Hid (w16.cell? ⟨w4.heap.size, 3, none⟩ = some (.bool n0_3)) := Lib.hid (oldM G16.out K0_3_15.out)
  have K0_4_16 : Hid (w16.cell? ⟨w4.heap.size, 4, none⟩ = some (.int .i64 n0_4)) := Lib.hid (oldM G16.out K0_4_15.out)
  have K0_5_16 : Hid (w16.cell? ⟨w4.heap.size, 5, none⟩ = some (.int .i64 n0_5)) := Lib.hid (oldM G16.out K0_5_15.out)
  have K0_6_16 : Hid (w16.cell? ⟨w4.heap.size, 6, none⟩ = some (.int .i64 n0_6)) := Lib.hid (oldM G16.out K0_6_15.out)
  have K0_7_16 : Hid (w16.cell? ⟨w4.heap.size, 7, none⟩ = some (.int .i64 n0_7)) := Lib.hid (oldM G16.out K0_7_15.out)
  have K0_8_16 : Hid (w16.cell? ⟨w4.heap.size, 8, none⟩ = some (.int .i64 n0_8)) := Lib.hid (oldM G16.out K0_8_15.out)
  have K0_9_16 : Hid (w16.cell? ⟨w4.heap.size, 9, none⟩ = some (.int .i64 n0_9)) := Lib.hid (oldM G16.out K0_9_15.out)
  have K0_10_16 : Hid (w16.cell? ⟨w4.heap.size, 10, none⟩ = some (.slice VA0_10 xs0_10.length xs0_10.length)) := Lib.hid (oldM G16.out K0_10_15.out)
  have K0_11_16 : Hid (w16.cell? ⟨w4.heap.size, 11, none⟩ = some (.slice VA0_11 xs0_11.length xs0_11.length)) := Lib.hid (oldM G16.out K0_11_15.out)
  have OY_16 : Hid (OR w16 w5.heap.size (.slice YA D.length Yc) (marksR 1 D.length)) := Lib.hid (own_bel OY_15.out G16.out)
  have OC_16 : Hid (OR w16 w13.heap.size (.slice CA D.length Cc) D) := Lib.hid (own_bel OC_15.out G16.out)
  have HB16 : Hid (Below w.heap.size w w16) := Lib.hid (HB15.out.trans (G16.out.mono HB15.out.size))
  have qF0_0 := F0_0_16.out
  have qF0_1 := F0_1_16.out
  have qF0_2 := F0_2_16.out
  have qF0_3 := F0_3_16.out
  have qF0_4 := F0_4_16.out
  have qF0_5 := F0_5_16.out
  have qF0_6 := F0_6_16.out
  have qF0_7 := F0_7_16.out
  have qF0_8 := F0_8_16.out
  have qF0_9 := F0_9_16.out
  have qF0_10 := F0_10_16.out
  have qF0_11 := F0_11_16.out
  have qK0_0 := K0_0_16.out
  have qK0_1 := K0_1_16.out
  have qK0_2 := K0_2_16.out
  have qK0_3 := K0_3_16.out
  have qK0_4 := K0_4_16.out
  have qK0_5 := K0_5_16.out
  have qK0_6 := K0_6_16.out
  have qK0_7 := K0_7_16.out
  have qK0_8 := K0_8_16.out
  have qK0_9 := K0_9_16.out
  have qK0_10 := K0_10_16.out
  have qK0_11 := K0_11_16.out
  go_wp2_with fail
  clear qF0_0 qF0_1 qF0_2 qF0_3 qF0_4 qF0_5 qF0_6 qF0_7 qF0_8 qF0_9 qF0_10 qF0_11 qK0_0 qK0_1 qK0_2 qK0_3 qK0_4 qK0_5 qK0_6 qK0_7 qK0_8 qK0_9 qK0_10 qK0_11
  go_ret
  exact ⟨rfl, HB16.out⟩
theorem own : ownKnob Try.prog.godebug = none := by kernel_rfl
theorem laidOut : laidOutB Try.prog = true := by kernel_rfl
set_option maxRecDepth 100000 in
theorem lifted (os : Os) (started : os.Started) (H : Type) (enc : TypeId × Value → H) :
    ReturnsInHanded {} Try.checked os 7 .any (Rows.fnExactFreeRunsSpec.pre6 enc Try.prog Try.f7 Rows.fnExactFreeRunsRow.domain false) (Rows.fnExactFreeRunsSpec.post enc Try.prog Try.f7 false true false false) := by
  refine returnsInHanded_of_change (C := Try.checked) own started (by kernel_rfl) Try.func7
    (ChangeSpec.witness6 (enc := enc) (C := Try.checked) false ⟨#[], #[.agg #[.slice none 0 0, .slice none 0 0, .int .i64 0, .bool false, .int .i64 0, .int .i64 0, .int .i64 0, .int .i64 0, .int .i64 0, .int .i64 0, .slice none 0 0, .slice none 0 0]], []⟩ 8 (by kernel_rfl) (by kernel_rfl) (by kernel_rfl) (by kernel_rfl)) ?_
  intro W base args ds gs before hval0 hW hcnd _
  have hval : ∀ (j : Nat) t v, Try.f7.params[j]? = some t → args[j]? = some v → Value.okWide Try.prog W .any base t v := hval0
  have hW' := hW
  obtain ⟨p, q, hA0, hV, rfl, hfz, hnd⟩ := hW
  have hA : DataW.TrodAll enc Try.prog W 0 (fun _ => true) true Try.f7.params.toList args.toList ds p := hA0
  rw [Try.params7] at hA hval
  obtain ⟨v0, vs0, d0, ds0, p0, q0, hargs, rfl, rfl, h0, r0⟩ := trodAll_cons hA
  obtain ⟨rfl, rfl, rfl⟩ := trodAll_nil r0
  obtain rfl : args = #[v0] := by cases args; simp_all
  obtain ⟨rfl, rfl⟩ := trodVars_none hV
  have k0 := h0
  have lt0 : ∀ x ∈ p0, x.block < W.heap.size := by obtain ⟨m, hm⟩ := k0; exact DataW.trod_lt m _ _ _ hm
  obtain ⟨v0_0, xs0_0, v0_1, xs0_1, n0_2, n0_3, n0_4, n0_5, n0_6, n0_7, n0_8, n0_9, v0_10, xs0_10, v0_11, xs0_11, rfl, g0_0, g0_1, g0_2, g0_4, g0_5, g0_6, g0_7, g0_8, g0_9, g0_10, g0_11⟩ := open_pager (hval 0 32 v0 rfl rfl) h0
  clear hA0 hval0
  refine (walk W _ _ _ _ _ _ _ _ _ _ _ _ _ _ _ _ g0_0 g0_1 g0_2 g0_4 g0_5 g0_6 g0_7 g0_8 g0_9 g0_10 g0_11).mono fun e W' ⟨he, bel⟩ => ?_
  subst he
  exact ⟨_, rfl, _, _, _, [], _, [], hW', (trodAll_cons_mk (shut_bool Try.underlying4 _) trodAll_mk0), (trodAll_cons_mk (Below.trod laidOut (by kernel_rfl) (of_decide_eq_true (by kernel_rfl)) k0 bel lt0) trodAll_mk0), rfl, bel.frame _, fun h => by cases h⟩
theorem closed : joinedFacts Try.pinned.checked.prog 7 Try.f7 Rows.fnExactFreeRunsSpec Rows.fnExactFreeRunsRow = true := by
  unfold joinedFacts
  rw [mayE, lifF, mkP]
  kernel_rfl
theorem over : Rows.fnExactFreeRunsRow.holds Try.pinned (OpenSpec.ofChange Rows.fnExactFreeRunsSpec) :=
  OpenClaim.holds_of_wide 7 Try.f7 rfl rfl rfl rfl rfl rfl rfl ⟨rfl, rfl, rfl, rfl, rfl⟩ rfl rfl rfl rfl rfl (by kernel_rfl) Try.func7 closed
    (of_decide_eq_true (by kernel_rfl)) (by unfold Func.isWrapper; rw [if_neg (of_decide_eq_false (by kernel_rfl))]; exact ⟨rfl, rfl⟩)
    (fun os started H enc _ => lifted os started H enc)
theorem proved : Rows.FnExactFreeRunsSaid := over
end Go.Proofs.Ytlickjmdlooapaa.fnExactFreeRuns
