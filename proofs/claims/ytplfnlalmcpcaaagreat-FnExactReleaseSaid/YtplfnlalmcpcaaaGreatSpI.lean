/- Contracts of the program's check and places of superblocks. No statement is proved here. -/
import Derived.Test.YtplfnlalmcpcaaaGreatSup
namespace Go.Proofs.YtplfnlalmcpcaaaGreat
open Go.RowKit
set_option linter.unusedVariables false
theorem supOk_iff {b l q t : Int} : supOk b l q t = true ↔ 16 ≤ b ∧ b ≤ 256 ∧ 8 ≤ l ∧ l ≤ 64 ∧ l ≤ b - 4 ∧ 0 ≤ q ∧ q ≤ 1000000000000 ∧ 0 ≤ t ∧ t ≤ 1000000000000 := by
  simp only [supOk, Bool.and_eq_true, inB_iff, decide_eq_true_eq]
  constructor
  · rintro ⟨⟨⟨⟨a, b⟩, c, d⟩, e⟩, ⟨f, g⟩, h, i⟩; exact ⟨a, b, c, d, e, f, g, h, i⟩
  · rintro ⟨a, b, c, d, e, f, g, h, i⟩; exact ⟨⟨⟨⟨a, b⟩, c, d⟩, e⟩, ⟨f, g⟩, h, i⟩
theorem supOk_not {b l q t : Int} (h : ¬ (16 ≤ b ∧ b ≤ 256 ∧ 8 ≤ l ∧ l ≤ 64 ∧ l ≤ b - 4 ∧ 0 ≤ q ∧ q ≤ 1000000000000 ∧ 0 ≤ t ∧ t ≤ 1000000000000)) : supOk b l q t = false := by
  rw [Bool.eq_false_iff]; exact fun e => h (supOk_iff.1 e)
set_option maxHeartbeats 1000000 in
set_option maxRecDepth 100000 in
theorem implValidSuper_any (n0 n1 n2 n3 : Int) (w : World) (h0 : InI n0) (h1 : InI n1) :
    Calls Tryz.prog 138 #[.agg #[.int .i64 n0, .int .i64 n1, .int .i64 n2, .int .i64 n3]] w (GivesB (.bool (supOk n0 n1 n2 n3)) w) := by
  have Hb0 : Hid (Below w.heap.size w (w.alloc (.cells #[.int .i64 n0, .int .i64 n1, .int .i64 n2, .int .i64 n3] 35))) := Lib.hid ((Below.refl _ w).alloc (Nat.le_refl _) _)
  generalize hr : supOk n0 n1 n2 n3 = r
  have Hr := Lib.hid hr; clear hr
  by_cases a1 : 16 ≤ n0
  rotate_left
  · have Hf : Hid (r = false) := Lib.hid (by rw [← Hr.out]; exact supOk_not (by omega))
    have d1 : decide (16 ≤ n0) = false := decide_eq_false a1
    go_enter Tryz.func138, Tryz.ntmps138
    go_wp2_with fail
    go_ret
    exact ⟨by rw [Hf.out]; rfl, Hb0.out⟩
  have d1 : decide (16 ≤ n0) = true := decide_eq_true a1
  by_cases a2 : n0 ≤ 256
  rotate_left
  · have Hf : Hid (r = false) := Lib.hid (by rw [← Hr.out]; exact supOk_not (by omega))
    have d2 : decide (n0 ≤ 256) = false := decide_eq_false a2
    go_enter Tryz.func138, Tryz.ntmps138
    go_wp2_with fail
    go_ret
    exact ⟨by rw [Hf.out]; rfl, Hb0.out⟩
  have d2 : decide (n0 ≤ 256) = true := decide_eq_true a2
  by_cases a3 : 8 ≤ n1
  rotate_left
  · have Hf : Hid (r = false) := Lib.hid (by rw [← Hr.out]; exact supOk_not (by omega))
    have d3 : decide (8 ≤ n1) = false := decide_eq_false a3
    go_enter Tryz.func138, Tryz.ntmps138
    go_wp2_with fail
    go_ret
    exact ⟨by rw [Hf.out]; rfl, Hb0.out⟩
  have d3 : decide (8 ≤ n1) = true := decide_eq_true a3
  have w4 : IntKind.i64.wrap (n0 - 4) = n0 - 4 := IntWalk.i64_in _ (by omega)
  obtain ⟨m, hm⟩ : ∃ m, m = (if n0 - 4 < 64 then n0 - 4 else 64) := ⟨_, rfl⟩
  have Hm : Hid (n1 ≤ m ↔ n1 ≤ 64 ∧ n1 ≤ n0 - 4) := Lib.hid (by rw [hm]; split <;> omega)
  have hm2 := hm.symm
  clear hm
  by_cases a4 : n1 ≤ m
  rotate_left
  · have Hf : Hid (r = false) := Lib.hid (by rw [← Hr.out]; exact supOk_not (fun h => a4 (Hm.out.2 ⟨by omega, by omega⟩)))
    have d4 : decide (n1 ≤ m) = false := decide_eq_false a4
    go_enter Tryz.func138, Tryz.ntmps138
    go_wp2_with fail
    go_ret
    exact ⟨by rw [Hf.out]; rfl, Hb0.out⟩
  have d4 : decide (n1 ≤ m) = true := decide_eq_true a4
  have A4 := Lib.hid (Hm.out.1 a4)
  by_cases a5 : 0 ≤ n2
  rotate_left
  · have Hf : Hid (r = false) := Lib.hid (by rw [← Hr.out]; exact supOk_not (by omega))
    have d5 : decide (0 ≤ n2) = false := decide_eq_false a5
    go_enter Tryz.func138, Tryz.ntmps138
    go_wp2_with fail
    go_ret
    exact ⟨by rw [Hf.out]; rfl, Hb0.out⟩
  have d5 : decide (0 ≤ n2) = true := decide_eq_true a5
  by_cases a6 : n2 ≤ 1000000000000
  rotate_left
  · have Hf : Hid (r = false) := Lib.hid (by rw [← Hr.out]; exact supOk_not (by omega))
    have d6 : decide (n2 ≤ 1000000000000) = false := decide_eq_false a6
    go_enter Tryz.func138, Tryz.ntmps138
    go_wp2_with fail
    go_ret
    exact ⟨by rw [Hf.out]; rfl, Hb0.out⟩
  have d6 : decide (n2 ≤ 1000000000000) = true := decide_eq_true a6
  by_cases a7 : 0 ≤ n3
  rotate_left
  · have Hf : Hid (r = false) := Lib.hid (by rw [← Hr.out]; exact supOk_not (by omega))
    have d7 : decide (0 ≤ n3) = false := decide_eq_false a7
    go_enter Tryz.func138, Tryz.ntmps138
    go_wp2_with fail
    go_ret
    exact ⟨by rw [Hf.out]; rfl, Hb0.out⟩
  have d7 : decide (0 ≤ n3) = true := decide_eq_true a7
  by_cases a8 : n3 ≤ 1000000000000
  rotate_left
  · have Hf : Hid (r = false) := Lib.hid (by rw [← Hr.out]; exact supOk_not (by omega))
    have d8 : decide (n3 ≤ 1000000000000) = false := decide_eq_false a8
    go_enter Tryz.func138, Tryz.ntmps138
    go_wp2_with fail
    go_ret
    exact ⟨by rw [Hf.out]; rfl, Hb0.out⟩
  have d8 : decide (n3 ≤ 1000000000000) = true := decide_eq_true a8
  have Hf : Hid (r = true) := Lib.hid (by rw [← Hr.out]; exact supOk_iff.2 ⟨a1, a2, a3, A4.out.1, A4.out.2, a5, a6, a7, a8⟩)
  go_enter Tryz.func138, Tryz.ntmps138
  go_wp2_with fail
  go_ret
  exact ⟨by rw [Hf.out]; rfl, Hb0.out⟩
set_option maxHeartbeats 1000000 in
theorem implAreaBlock_any (n0 n1 n2 n3 : Int) (w : World) (h0 : InI n0) (h1 : InI n1) :
    Calls Tryz.prog 97 #[.agg #[.int .i64 n0, .int .i64 n1, .int .i64 n2, .int .i64 n3]] w (GivesB (.int .i64 (arOf n0 n1 n2 n3)) w) := by
  have Hb0 : Hid (Below w.heap.size w (w.alloc (.cells #[.int .i64 n0, .int .i64 n1, .int .i64 n2, .int .i64 n3] 35))) := Lib.hid ((Below.refl _ w).alloc (Nat.le_refl _) _)
  have C0 : Hid ((w.alloc (.cells #[.int .i64 n0, .int .i64 n1, .int .i64 n2, .int .i64 n3] 35)).heap[w.heap.size]? = some (.cells #[.int .i64 n0, .int .i64 n1, .int .i64 n2, .int .i64 n3] 35 (0, 0))) := Lib.hid (heap_alloc_new w _)
  have Lt : Hid (w.heap.size < (w.alloc (.cells #[.int .i64 n0, .int .i64 n1, .int .i64 n2, .int .i64 n3] 35)).heap.size) := Lib.hid (by simp)
  cases hs : supOk n0 n1 n2 n3
  · have Hf : Hid (arOf n0 n1 n2 n3 = 0) := Lib.hid (by simp [arOf, hs])
    generalize arOf n0 n1 n2 n3 = r at *
    go_enter Tryz.func97, Tryz.ntmps97
    go_wp2_with fail
    generalize (w.alloc (.cells #[.int .i64 n0, .int .i64 n1, .int .i64 n2, .int .i64 n3] 35)) = w0 at *
    refine (implValidSuper_any n0 n1 n2 n3 w0 h0 h1).mono ?_
    rintro e w1 ⟨rfl, g⟩
    rw [hs]
    go_wp2_with fail
    go_ret
    exact ⟨by rw [Hf.out]; rfl, Hb0.out.trans (g.mono Hb0.out.size)⟩
  · have Hf : Hid (arOf n0 n1 n2 n3 = 2 + n1) := Lib.hid (by simp [arOf, hs])
    have H8 := Lib.hid (supOk_l hs)
    generalize arOf n0 n1 n2 n3 = r at *
    go_enter Tryz.func97, Tryz.ntmps97
    go_wp2_with fail
    generalize (w.alloc (.cells #[.int .i64 n0, .int .i64 n1, .int .i64 n2, .int .i64 n3] 35)) = w0 at *
    refine (implValidSuper_any n0 n1 n2 n3 w0 h0 h1).mono ?_
    rintro e w1 ⟨rfl, g⟩
    rw [hs]
    have R1 : Hid (w1.heap[w.heap.size]? = some (.cells #[.int .i64 n0, .int .i64 n1, .int .i64 n2, .int .i64 n3] 35 (0, 0))) := Lib.hid ((g.block _ Lt.out).trans C0.out)
    have q0 : w1.cell? ⟨w.heap.size, 0, none⟩ = some (.int .i64 n0) := by rw [cell_of_row _ _ _ _ _ _ R1.out]; rfl
    have q1 : w1.cell? ⟨w.heap.size, 1, none⟩ = some (.int .i64 n1) := by rw [cell_of_row _ _ _ _ _ _ R1.out]; rfl
    have q2 : w1.cell? ⟨w.heap.size, 2, none⟩ = some (.int .i64 n2) := by rw [cell_of_row _ _ _ _ _ _ R1.out]; rfl
    have q3 : w1.cell? ⟨w.heap.size, 3, none⟩ = some (.int .i64 n3) := by rw [cell_of_row _ _ _ _ _ _ R1.out]; rfl
    have Hb1 : Hid (Below w.heap.size w w1) := Lib.hid (Hb0.out.trans (g.mono Hb0.out.size))
    clear g
    have B1 := inB_iff.1 H8.out
    have E8 : IntKind.i64.wrap (2 + n1) = 2 + n1 := IntWalk.i64_in _ (by omega)
    have E9 : wrap64 (2 + n1) = 2 + n1 := by unfold wrap64; omega
    go_wp2_with fail
    go_ret
    exact ⟨by rw [Hf.out, ← E9]; rfl, Hb1.out⟩
set_option maxHeartbeats 1000000 in
theorem implDataFirst_any (n0 n1 n2 n3 : Int) (w : World) (h0 : InI n0) (h1 : InI n1) :
    Calls Tryz.prog 110 #[.agg #[.int .i64 n0, .int .i64 n1, .int .i64 n2, .int .i64 n3]] w (GivesB (.int .i64 (daOf n0 n1 n2 n3)) w) := by
  have Hb0 : Hid (Below w.heap.size w (w.alloc (.cells #[.int .i64 n0, .int .i64 n1, .int .i64 n2, .int .i64 n3] 35))) := Lib.hid ((Below.refl _ w).alloc (Nat.le_refl _) _)
  have C0 : Hid ((w.alloc (.cells #[.int .i64 n0, .int .i64 n1, .int .i64 n2, .int .i64 n3] 35)).heap[w.heap.size]? = some (.cells #[.int .i64 n0, .int .i64 n1, .int .i64 n2, .int .i64 n3] 35 (0, 0))) := Lib.hid (heap_alloc_new w _)
  have Lt : Hid (w.heap.size < (w.alloc (.cells #[.int .i64 n0, .int .i64 n1, .int .i64 n2, .int .i64 n3] 35)).heap.size) := Lib.hid (by simp)
  cases hs : supOk n0 n1 n2 n3
  · have Hf : Hid (daOf n0 n1 n2 n3 = 0) := Lib.hid (by simp [daOf, hs])
    generalize daOf n0 n1 n2 n3 = r at *
    go_enter Tryz.func110, Tryz.ntmps110
    go_wp2_with fail
    generalize (w.alloc (.cells #[.int .i64 n0, .int .i64 n1, .int .i64 n2, .int .i64 n3] 35)) = w0 at *
    refine (implValidSuper_any n0 n1 n2 n3 w0 h0 h1).mono ?_
    rintro e w1 ⟨rfl, g⟩
    rw [hs]
    go_wp2_with fail
    go_ret
    exact ⟨by rw [Hf.out]; rfl, Hb0.out.trans (g.mono Hb0.out.size)⟩
  · have Hf : Hid (daOf n0 n1 n2 n3 = 3 + n1) := Lib.hid (by simp [daOf, hs])
    have H8 := Lib.hid (supOk_l hs)
    have B1 := inB_iff.1 H8.out
    have E8 : IntKind.i64.wrap (2 + n1 + 1) = 2 + n1 + 1 := IntWalk.i64_in _ (by omega)
    have E9 : 2 + n1 + 1 = 3 + n1 := by omega
    generalize daOf n0 n1 n2 n3 = r at *
    go_enter Tryz.func110, Tryz.ntmps110
    go_wp2_with fail
    generalize (w.alloc (.cells #[.int .i64 n0, .int .i64 n1, .int .i64 n2, .int .i64 n3] 35)) = w0 at *
    refine (implValidSuper_any n0 n1 n2 n3 w0 h0 h1).mono ?_
    rintro e w1 ⟨rfl, g⟩
    rw [hs]
    have R1 : Hid (w1.heap[w.heap.size]? = some (.cells #[.int .i64 n0, .int .i64 n1, .int .i64 n2, .int .i64 n3] 35 (0, 0))) := Lib.hid ((g.block _ Lt.out).trans C0.out)
    have q0 : w1.cell? ⟨w.heap.size, 0, none⟩ = some (.int .i64 n0) := by rw [cell_of_row _ _ _ _ _ _ R1.out]; rfl
    have q1 : w1.cell? ⟨w.heap.size, 1, none⟩ = some (.int .i64 n1) := by rw [cell_of_row _ _ _ _ _ _ R1.out]; rfl
    have q2 : w1.cell? ⟨w.heap.size, 2, none⟩ = some (.int .i64 n2) := by rw [cell_of_row _ _ _ _ _ _ R1.out]; rfl
    have q3 : w1.cell? ⟨w.heap.size, 3, none⟩ = some (.int .i64 n3) := by rw [cell_of_row _ _ _ _ _ _ R1.out]; rfl
    have Hb1 : Hid (Below w.heap.size w w1) := Lib.hid (Hb0.out.trans (g.mono Hb0.out.size))
    clear g
    go_wp2_with fail
    refine (implAreaBlock_any n0 n1 n2 n3 w1 h0 h1).mono ?_
    rintro e w2 ⟨rfl, g⟩
    rw [show arOf n0 n1 n2 n3 = 2 + n1 by simp [arOf, hs]]
    go_wp2_with fail
    go_ret
    exact ⟨by rw [Hf.out, ← E9]; rfl, Hb1.out.trans (g.mono Hb1.out.size)⟩
end Go.Proofs.YtplfnlalmcpcaaaGreat
