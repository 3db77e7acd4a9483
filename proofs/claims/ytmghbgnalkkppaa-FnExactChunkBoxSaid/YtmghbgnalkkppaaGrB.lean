/- Grids of chunks: the model's place of a key, box of a chunk. No statement is proved here. -/
import Derived.Test.YtmghbgnalkkppaaGrL
namespace Go.Proofs.Ytmghbgnalkkppaa
open Go.RowKit
set_option linter.unusedVariables false
def sx (n : Nat) : List Int := List.replicate n 16
theorem sx_len (n : Nat) : (sx n).length = n := by simp [sx]
theorem sx_at (n j : Nat) (h : j < (sx n).length) : (sx n)[j] = 16 := by simp [sx]
theorem sx_pos (n : Nat) : ∀ d ∈ sx n, 0 < d := by
  intro d hd
  have := List.eq_of_mem_replicate hd
  omega
set_option maxHeartbeats 1000000 in
set_option maxRecDepth 100000 in
theorem l20Place_any {w : World} (n : Nat) (i : Int) (hn : n ≤ 3) (h0 : 0 ≤ i) (hi : i ≤ 1000000) :
    Calls Try.prog 67 #[.int .i64 (n : Int), .int .i64 i] w fun e w' => e = .returned (.slice (some ⟨w.heap.size, 0, none⟩) n n) ∧ OI w' w.heap.size (.slice (some ⟨w.heap.size, 0, none⟩) n n) (crds (sx n) i) ∧ Below w.heap.size w w' := by
  obtain ⟨C, hC, hmk⟩ := make_all (P := Try.prog) 22 2 n 1 8 Try.underlying22 Try.infoI (by omega) (by omega)
  have HC := Lib.hid hC
  clear hC
  have HB0 : Hid (Below w.heap.size w (w.alloc (.cells C 2))) := Lib.hid ((Below.refl _ w).alloc (Nat.le_refl _) _)
  have HR0 : Hid (CrdRow (w.alloc (.cells C 2)) w.heap.size (sx n) i n C) := Lib.hid ⟨heap_alloc_new w _, by rw [HC.out, Nat.mul_one, sx_len], fun k hk h => absurd hk (by rw [sx_len]; omega)⟩
  have HQ0 : Hid (qR (sx n) i n = i) := Lib.hid (by have := qR_end (sx n) i; rw [sx_len] at this; exact this)
  go_enter Try.func67, Try.ntmps67
  go_wp2
  go_loopw [1, 6] (fun q x wr => ∃ j : Nat, ∃ C' : Array Value, j ≤ n ∧ x = .int .i64 ((j : Int) - 1) ∧ q = .int .i64 (qR (sx n) i j) ∧ CrdRow wr w.heap.size (sx n) i j C' ∧ Below w.heap.size w wr) (fun _ x _ => (intOf x + 1).toNat)
  case atStart => exact ⟨n, C, Nat.le_refl _, rfl, by rw [HQ0.out], HR0.out, HB0.out⟩
  case round =>
    obtain ⟨j, C', hj, rfl, rfl, hrow, hbel⟩ := hrel
    have Hrow := Lib.hid hrow; have Hbel := Lib.hid hbel; clear hrow hbel
    cases j with
    | zero =>
      have Hr := Lib.hid Hrow.out.row
      go_wp2
      go_ret
      exact ⟨rfl, by have := OI.of_row Hr.out (Nat.le_refl _) (by rw [crds_length, sx_len]; unfold maxLen; omega); rw [crds_length, sx_len] at this; exact this, Hbel.out⟩
    | succ j =>
      rw [show ((j + 1 : Nat) : Int) - 1 = (j : Int) by omega]
      have hlt : j < (sx n).length := by rw [sx_len]; omega
      obtain ⟨u, hu0⟩ : ∃ u, C'[j]? = some u := ⟨_, Array.getElem?_eq_getElem (by rw [Hrow.out.2.1]; exact hlt)⟩
      have hu : wr.cell? ⟨w.heap.size, j, none⟩ = some u := by rw [cell_of_row _ _ _ _ _ _ Hrow.out.1]; exact hu0
      have hfz : wr.frozen? ⟨w.heap.size, j, none⟩ = false := frozen_of_row _ _ _ _ _ Hrow.out.1
      have Hnew := Lib.hid (Hrow.out.set hlt)
      have Hb2 : Hid (Below w.heap.size w (wr.setCell ⟨w.heap.size, j, none⟩ (.int .i64 (crd (sx n) i j)))) := Lib.hid (Hbel.out.setCell (p := ⟨w.heap.size, j, none⟩) (Nat.le_refl _) _)
      have hqb := qR_bd (sx n) i h0 (sx_pos n) (j + 1)
      have hqb2 := qR_bd (sx n) i h0 (sx_pos n) j
      have hcb := crd_bd (sx n) i h0 (sx_pos n) j hlt
      have hm : (qR (sx n) i (j + 1)).tmod 16 = crd (sx n) i j := by rw [crd_at (sx n) i j hlt, sx_at]
      have hq : (qR (sx n) i (j + 1)).tdiv 16 = qR (sx n) i j := by rw [qR_step (sx n) i j hlt, sx_at]
      rw [sx_at] at hcb
      clear hlt
      generalize qR (sx n) i (j + 1) = q1 at *
      obtain ⟨q0, hq0e⟩ : ∃ q0, qR (sx n) i j = q0 := ⟨_, rfl⟩
      rw [hq0e] at hq hqb2
      have Hq0 := Lib.hid hq0e; clear hq0e
      generalize crd (sx n) i j = c at *
      have hw1 : IntKind.i64.wrap c = c := IntWalk.i64_in _ (by omega)
      have hw2 : IntKind.i64.wrap q0 = q0 := IntWalk.i64_in _ (by omega)
      clear hu0
      go_wp2
      exact ⟨⟨j, _, by omega, rfl, by rw [Hq0.out], Hnew.out, Hb2.out⟩, by simp [intOf]⟩
end Go.Proofs.Ytmghbgnalkkppaa
