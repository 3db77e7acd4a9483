/- Pagers: contracts of the program's checks. No statement is proved here. -/
import Derived.Test.YtplfnlalmcpcaaaGreatPgM
import Derived.Test.YtplfnlalmcpcaaaGreatPgk
namespace Go.Proofs.YtplfnlalmcpcaaaGreat
open Go.RowKit
set_option linter.unusedVariables false
set_option maxHeartbeats 2000000 in
set_option maxRecDepth 100000 in
theorem isSuperOf_any {B : Nat} {w : World} {v0 v1 : Value} {ss : List ByteArray} {ps : List Pt} {fz b l q t : Int} {off : Bool} (h0 : RiT B w v0 ss) (h1 : RiU B w v1 ps) (hB : B ≤ w.heap.size) (i4 : InI b) (i5 : InI l) :
    Calls Tryz.prog 93 #[.agg #[v0, v1, .int .i64 fz, .bool off], .agg #[.int .i64 b, .int .i64 l, .int .i64 q, .int .i64 t]] w (GivesB (.bool (dskOk ss ps fz && (supOk b l q t && decide (b = (ss.length : Int))))) w) := by
  have H0 := Lib.hid h0; obtain ⟨A0, c0, rfl, l0, m0, -⟩ := h0
  have H1 := Lib.hid h1; obtain ⟨A1, c1, rfl, -, -, -⟩ := h1
  unfold maxLen at m0
  have Hb0 : Hid (Below w.heap.size w ((w.alloc (.cells #[.slice A0 ss.length c0, .slice A1 ps.length c1, .int .i64 fz, .bool off] 34)).alloc (.cells #[.int .i64 b, .int .i64 l, .int .i64 q, .int .i64 t] 35))) := Lib.hid (((Below.refl _ w).alloc (Nat.le_refl _) _).alloc (by simp) _)
  have R0 : Hid (((w.alloc (.cells #[.slice A0 ss.length c0, .slice A1 ps.length c1, .int .i64 fz, .bool off] 34)).alloc (.cells #[.int .i64 b, .int .i64 l, .int .i64 q, .int .i64 t] 35)).heap[w.heap.size]? = some (.cells #[.slice A0 ss.length c0, .slice A1 ps.length c1, .int .i64 fz, .bool off] 34 (0, 0))) := Lib.hid (heap_alloc2_old w _ _)
  have S0 : Hid (((w.alloc (.cells #[.slice A0 ss.length c0, .slice A1 ps.length c1, .int .i64 fz, .bool off] 34)).alloc (.cells #[.int .i64 b, .int .i64 l, .int .i64 q, .int .i64 t] 35)).heap[w.heap.size + 1]? = some (.cells #[.int .i64 b, .int .i64 l, .int .i64 q, .int .i64 t] 35 (0, 0))) := Lib.hid (heap_alloc2_new w _ _)
  have Lt0 : Hid (w.heap.size + 1 < ((w.alloc (.cells #[.slice A0 ss.length c0, .slice A1 ps.length c1, .int .i64 fz, .bool off] 34)).alloc (.cells #[.int .i64 b, .int .i64 l, .int .i64 q, .int .i64 t] 35)).heap.size) := Lib.hid (by simp)
  have C1 : Hid (∀ W, Below ((w.alloc (.cells #[.slice A0 ss.length c0, .slice A1 ps.length c1, .int .i64 fz, .bool off] 34)).alloc (.cells #[.int .i64 b, .int .i64 l, .int .i64 q, .int .i64 t] 35)).heap.size ((w.alloc (.cells #[.slice A0 ss.length c0, .slice A1 ps.length c1, .int .i64 fz, .bool off] 34)).alloc (.cells #[.int .i64 b, .int .i64 l, .int .i64 q, .int .i64 t] 35)) W → _) := Lib.hid (fun W hW => implValidDisk_any (w := W) (off := off) (fz := fz) (H0.out.at hB (Hb0.out.trans (hW.mono Hb0.out.size))) (H1.out.at hB (Hb0.out.trans (hW.mono Hb0.out.size))) (Nat.le_refl _))
  have C2 := Lib.hid (fun W => implValidSuper_any b l q t W i4 i5)
  obtain ⟨r, hr⟩ : ∃ r : Bool, (dskOk ss ps fz && (supOk b l q t && decide (b = (ss.length : Int)))) = r := ⟨_, rfl⟩
  rw [hr]
  have HF : Hid (r = (dskOk ss ps fz && (supOk b l q t && (b == (ss.length : Int))))) := Lib.hid (by rw [← hr]; rfl)
  clear hr
  generalize dskOk ss ps fz = a1 at *
  generalize supOk b l q t = a2 at *
  go_enter Tryz.func93, Tryz.ntmps93
  go_wp2_with (refine wpList_load_row rfl 34 (.tmp 2) rfl _ rfl 34 _ (0, 0) _ R0.out Tryz.underlying34 rfl (by kernel_rfl) ?_)
  generalize ((w.alloc (.cells #[.slice A0 ss.length c0, .slice A1 ps.length c1, .int .i64 fz, .bool off] 34)).alloc (.cells #[.int .i64 b, .int .i64 l, .int .i64 q, .int .i64 t] 35)) = w0 at *
  refine (C1.out _ (Below.refl _ _)).mono ?_
  rintro e w1 ⟨rfl, g⟩
  have Hb1 := Lib.hid (Hb0.out.trans (g.mono Hb0.out.size))
  have R1 := Lib.hid ((g.block _ (by have := Lt0.out; omega)).trans R0.out)
  have S1 := Lib.hid ((g.block _ Lt0.out).trans S0.out)
  have Lt1 : Hid (w.heap.size + 1 < w1.heap.size) := Lib.hid (by have := Lt0.out; have := g.size; omega)
  clear g
  cases a1
  · have Hf : Hid (r = false) := Lib.hid (by rw [HF.out]; rfl)
    go_wp2_with fail
    go_ret
    exact ⟨by rw [Hf.out]; rfl, Hb1.out⟩
  have s0 : w1.cell? ⟨w.heap.size + 1, 0, none⟩ = some (.int .i64 b) := by rw [cell_of_row _ _ _ _ _ _ S1.out]; rfl
  have s1 : w1.cell? ⟨w.heap.size + 1, 1, none⟩ = some (.int .i64 l) := by rw [cell_of_row _ _ _ _ _ _ S1.out]; rfl
  have s2 : w1.cell? ⟨w.heap.size + 1, 2, none⟩ = some (.int .i64 q) := by rw [cell_of_row _ _ _ _ _ _ S1.out]; rfl
  have s3 : w1.cell? ⟨w.heap.size + 1, 3, none⟩ = some (.int .i64 t) := by rw [cell_of_row _ _ _ _ _ _ S1.out]; rfl
  go_wp2_with fail
  clear s0 s1 s2 s3
  refine (C2.out _).mono ?_
  rintro e w2 ⟨rfl, g⟩
  have Hb2 := Lib.hid (Hb1.out.trans (g.mono Hb1.out.size))
  have R2 := Lib.hid ((g.block _ (by have := Lt1.out; omega)).trans R1.out)
  have S2 := Lib.hid ((g.block _ Lt1.out).trans S1.out)
  clear g
  cases a2
  · have Hf : Hid (r = false) := Lib.hid (by rw [HF.out]; rfl)
    go_wp2_with fail
    go_ret
    exact ⟨by rw [Hf.out]; rfl, Hb2.out⟩
  have q0 : w2.cell? ⟨w.heap.size, 0, none⟩ = some (.slice A0 ss.length c0) := by rw [cell_of_row _ _ _ _ _ _ R2.out]; rfl
  have q1 : w2.cell? ⟨w.heap.size + 1, 0, none⟩ = some (.int .i64 b) := by rw [cell_of_row _ _ _ _ _ _ S2.out]; rfl
  by_cases hb : b = (ss.length : Int)
  · have Hf : Hid (r = true) := Lib.hid (by rw [HF.out, hb]; simp)
    subst hb
    go_wp2_with fail
    go_ret
    exact ⟨by rw [Hf.out]; rfl, Hb2.out⟩
  · have e1 : (b == (ss.length : Int)) = false := beq_eq_false_iff_ne.2 hb
    have Hf : Hid (r = false) := Lib.hid (by rw [HF.out, e1]; rfl)
    go_wp2_with fail
    go_ret
    exact ⟨by rw [Hf.out]; rfl, Hb2.out⟩
set_option maxHeartbeats 4000000 in
set_option maxRecDepth 100000 in
theorem implValidPager_any {B : Nat} {w : World} {v0 v1 v10 v11 : Value} {ss : List ByteArray} {ps lg dt : List Pt} {fz b l q t sq at_ : Int} {off : Bool} (h0 : RiT B w v0 ss) (h1 : RiU B w v1 ps) (h10 : RiU B w v10 lg) (h11 : RiU B w v11 dt) (hB : B ≤ w.heap.size) (i4 : InI b) (i5 : InI l) :
    Calls Tryz.prog 44 #[.agg #[v0, v1, .int .i64 fz, .bool off, .int .i64 b, .int .i64 l, .int .i64 q, .int .i64 t, .int .i64 sq, .int .i64 at_, v10, v11]] w (GivesB (.bool (pgrOk ss ps fz off b l q t sq at_ lg dt)) w) := by
  have H0 := Lib.hid h0; obtain ⟨A0, c0, rfl, l0, m0, -⟩ := h0
  have H1 := Lib.hid h1; obtain ⟨A1, c1, rfl, l1, m1, -⟩ := h1
  have H10 := Lib.hid h10; obtain ⟨A10, c10, rfl, -, -, -⟩ := h10
  have H11 := Lib.hid h11; obtain ⟨A11, c11, rfl, l11, m11, -⟩ := h11
  unfold maxLen at m0 m1 m11
  have Hb0 : Hid (Below w.heap.size w (w.alloc (.cells #[.slice A0 ss.length c0, .slice A1 ps.length c1, .int .i64 fz, .bool off, .int .i64 b, .int .i64 l, .int .i64 q, .int .i64 t, .int .i64 sq, .int .i64 at_, .slice A10 lg.length c10, .slice A11 dt.length c11] 38))) := Lib.hid ((Below.refl _ w).alloc (Nat.le_refl _) _)
  have R0 : Hid ((w.alloc (.cells #[.slice A0 ss.length c0, .slice A1 ps.length c1, .int .i64 fz, .bool off, .int .i64 b, .int .i64 l, .int .i64 q, .int .i64 t, .int .i64 sq, .int .i64 at_, .slice A10 lg.length c10, .slice A11 dt.length c11] 38)).heap[w.heap.size]? = some (.cells #[.slice A0 ss.length c0, .slice A1 ps.length c1, .int .i64 fz, .bool off, .int .i64 b, .int .i64 l, .int .i64 q, .int .i64 t, .int .i64 sq, .int .i64 at_, .slice A10 lg.length c10, .slice A11 dt.length c11] 38 (0, 0))) := Lib.hid (heap_alloc_new w _)
  have Lt0 : Hid (w.heap.size < (w.alloc (.cells #[.slice A0 ss.length c0, .slice A1 ps.length c1, .int .i64 fz, .bool off, .int .i64 b, .int .i64 l, .int .i64 q, .int .i64 t, .int .i64 sq, .int .i64 at_, .slice A10 lg.length c10, .slice A11 dt.length c11] 38)).heap.size) := Lib.hid (by simp)
  have C1 : Hid (∀ W, Below (w.alloc (.cells #[.slice A0 ss.length c0, .slice A1 ps.length c1, .int .i64 fz, .bool off, .int .i64 b, .int .i64 l, .int .i64 q, .int .i64 t, .int .i64 sq, .int .i64 at_, .slice A10 lg.length c10, .slice A11 dt.length c11] 38)).heap.size (w.alloc (.cells #[.slice A0 ss.length c0, .slice A1 ps.length c1, .int .i64 fz, .bool off, .int .i64 b, .int .i64 l, .int .i64 q, .int .i64 t, .int .i64 sq, .int .i64 at_, .slice A10 lg.length c10, .slice A11 dt.length c11] 38)) W → _) := Lib.hid (fun W hW => isSuperOf_any (w := W) (fz := fz) (off := off) (q := q) (t := t) (H0.out.at hB (Hb0.out.trans (hW.mono Hb0.out.size))) (H1.out.at hB (Hb0.out.trans (hW.mono Hb0.out.size))) (Nat.le_refl _) i4 i5)
  have C5 : Hid (∀ W, Below (w.alloc (.cells #[.slice A0 ss.length c0, .slice A1 ps.length c1, .int .i64 fz, .bool off, .int .i64 b, .int .i64 l, .int .i64 q, .int .i64 t, .int .i64 sq, .int .i64 at_, .slice A10 lg.length c10, .slice A11 dt.length c11] 38)).heap.size (w.alloc (.cells #[.slice A0 ss.length c0, .slice A1 ps.length c1, .int .i64 fz, .bool off, .int .i64 b, .int .i64 l, .int .i64 q, .int .i64 t, .int .i64 sq, .int .i64 at_, .slice A10 lg.length c10, .slice A11 dt.length c11] 38)) W → _) := Lib.hid (fun W hW => implValidPages_any (w := W) (H10.out.at hB (Hb0.out.trans (hW.mono Hb0.out.size))) (Nat.le_refl _))
  have C6 : Hid (∀ W, Below (w.alloc (.cells #[.slice A0 ss.length c0, .slice A1 ps.length c1, .int .i64 fz, .bool off, .int .i64 b, .int .i64 l, .int .i64 q, .int .i64 t, .int .i64 sq, .int .i64 at_, .slice A10 lg.length c10, .slice A11 dt.length c11] 38)).heap.size (w.alloc (.cells #[.slice A0 ss.length c0, .slice A1 ps.length c1, .int .i64 fz, .bool off, .int .i64 b, .int .i64 l, .int .i64 q, .int .i64 t, .int .i64 sq, .int .i64 at_, .slice A10 lg.length c10, .slice A11 dt.length c11] 38)) W → _) := Lib.hid (fun W hW => implValidPages_any (w := W) (H11.out.at hB (Hb0.out.trans (hW.mono Hb0.out.size))) (Nat.le_refl _))
  have C7 : Hid (∀ W, Below (w.alloc (.cells #[.slice A0 ss.length c0, .slice A1 ps.length c1, .int .i64 fz, .bool off, .int .i64 b, .int .i64 l, .int .i64 q, .int .i64 t, .int .i64 sq, .int .i64 at_, .slice A10 lg.length c10, .slice A11 dt.length c11] 38)).heap.size (w.alloc (.cells #[.slice A0 ss.length c0, .slice A1 ps.length c1, .int .i64 fz, .bool off, .int .i64 b, .int .i64 l, .int .i64 q, .int .i64 t, .int .i64 sq, .int .i64 at_, .slice A10 lg.length c10, .slice A11 dt.length c11] 38)) W → supOk b l q t = true → _) := Lib.hid (fun W hW hs => hasPages_any (w := W) (H10.out.at hB (Hb0.out.trans (hW.mono Hb0.out.size))) (Nat.le_refl _) hs)
  have C8 : Hid (∀ W, Below (w.alloc (.cells #[.slice A0 ss.length c0, .slice A1 ps.length c1, .int .i64 fz, .bool off, .int .i64 b, .int .i64 l, .int .i64 q, .int .i64 t, .int .i64 sq, .int .i64 at_, .slice A10 lg.length c10, .slice A11 dt.length c11] 38)).heap.size (w.alloc (.cells #[.slice A0 ss.length c0, .slice A1 ps.length c1, .int .i64 fz, .bool off, .int .i64 b, .int .i64 l, .int .i64 q, .int .i64 t, .int .i64 sq, .int .i64 at_, .slice A10 lg.length c10, .slice A11 dt.length c11] 38)) W → supOk b l q t = true → _) := Lib.hid (fun W hW hs => hasPages_any (w := W) (H11.out.at hB (Hb0.out.trans (hW.mono Hb0.out.size))) (Nat.le_refl _) hs)
  have C9 : Hid (∀ W, supOk b l q t = true → _) := Lib.hid (fun W hs => logTakes_any (w := W) (n0 := b) (n1 := l) (n2 := q) (n3 := t) dt.length (sup_b hs).2.2.1)
  have HF : Hid (pgrOk ss ps fz off b l q t sq at_ lg dt = ((dskOk ss ps fz && ((decide (ps.length ≤ 1) || off) && (supOk b l q t && decide (b = (ss.length : Int))))) && ((inB sq q 1000000000000 && inB at_ 0 l) && ((pgOk lg && pgOk dt) && ((wiOk b l lg && wiOk b l dt) && ftOk l (dt.length : Int)))))) := Lib.hid rfl
  generalize pgrOk ss ps fz off b l q t sq at_ lg dt = r at *
  have HS0 : Hid ((dskOk ss ps fz && (supOk b l q t && decide (b = (ss.length : Int)))) = true → dskOk ss ps fz = true ∧ supOk b l q t = true ∧ decide (b = (ss.length : Int)) = true) := Lib.hid (fun h => by simpa [Bool.and_eq_true] using h)
  have HS1 : Hid ((dskOk ss ps fz && (supOk b l q t && decide (b = (ss.length : Int)))) = false → r = false) := Lib.hid (fun h => by rw [HF.out]; revert h; cases dskOk ss ps fz <;> cases supOk b l q t <;> cases decide (b = (ss.length : Int)) <;> simp)
  generalize hz0 : (dskOk ss ps fz && (supOk b l q t && decide (b = (ss.length : Int)))) = z0 at *
  clear hz0
  generalize pgOk lg = a5 at *
  generalize pgOk dt = a6 at *
  generalize wiOk b l lg = a7 at *
  generalize wiOk b l dt = a8 at *
  generalize ftOk l (dt.length : Int) = a9 at *
  have LdD := Lib.hid (run_load_cells (P := Tryz.prog) (w.alloc (.cells #[.slice A0 ss.length c0, .slice A1 ps.length c1, .int .i64 fz, .bool off, .int .i64 b, .int .i64 l, .int .i64 q, .int .i64 t, .int .i64 sq, .int .i64 at_, .slice A10 lg.length c10, .slice A11 dt.length c11] 38)) w.heap.size 0 34 _ [.slice A0 ss.length c0, .slice A1 ps.length c1, .int .i64 fz, .bool off] (row_part R0.out (by intro j u hj; rcases j with _ | _ | _ | _ | j; all_goals first | exact hj | simp at hj)) Tryz.underlying34 rfl)
  have LdS := Lib.hid (run_load_cells (P := Tryz.prog) (w.alloc (.cells #[.slice A0 ss.length c0, .slice A1 ps.length c1, .int .i64 fz, .bool off, .int .i64 b, .int .i64 l, .int .i64 q, .int .i64 t, .int .i64 sq, .int .i64 at_, .slice A10 lg.length c10, .slice A11 dt.length c11] 38)) w.heap.size 4 35 _ [.int .i64 b, .int .i64 l, .int .i64 q, .int .i64 t] (row_part R0.out (by intro j u hj; rcases j with _ | _ | _ | _ | j; all_goals first | exact hj | simp at hj)) Tryz.underlying35 rfl)
  go_enter Tryz.func44, Tryz.ntmps44
  go_wp2_with (first | (refine wpList_load_agg rfl 34 (.tmp 3) rfl _ rfl _ LdD.out ?_) | (refine wpList_load_agg rfl 35 (.tmp 5) rfl _ rfl _ LdS.out ?_))
  clear LdD LdS
  generalize (w.alloc (.cells #[.slice A0 ss.length c0, .slice A1 ps.length c1, .int .i64 fz, .bool off, .int .i64 b, .int .i64 l, .int .i64 q, .int .i64 t, .int .i64 sq, .int .i64 at_, .slice A10 lg.length c10, .slice A11 dt.length c11] 38)) = w0 at *
  refine (C1.out _ (Below.refl _ _)).mono ?_
  rintro e w1 ⟨rfl, g⟩
  have Hg1 : Hid (Below w0.heap.size w0 w1) := Lib.hid (g)
  have Hb1 := Lib.hid (Hb0.out.trans (Hg1.out.mono Hb0.out.size))
  have R1 := Lib.hid ((Hg1.out.block _ Lt0.out).trans R0.out)
  clear g
  simp only [List.append_eq, List.cons_append, List.nil_append] at *
  cases z0
  · have Hf : Hid (r = false) := Lib.hid (HS1.out (by first | rfl | trivial))
    go_wp2_with fail
    go_ret
    exact ⟨by rw [Hf.out]; rfl, Hb1.out⟩
  have HS2 := Lib.hid (HS0.out (by first | rfl | trivial))
  clear HS0 HS1
  rw [HS2.out.1, HS2.out.2.1, HS2.out.2.2] at HF
  have k1 : w1.cell? ⟨w.heap.size, 1, none⟩ = some (.slice A1 ps.length c1) := by rw [cell_of_row _ _ _ _ _ _ R1.out]; rfl
  have k3 : w1.cell? ⟨w.heap.size, 3, none⟩ = some (.bool off) := by rw [cell_of_row _ _ _ _ _ _ R1.out]; rfl
  have k5 : w1.cell? ⟨w.heap.size, 5, none⟩ = some (.int .i64 l) := by rw [cell_of_row _ _ _ _ _ _ R1.out]; rfl
  have k6 : w1.cell? ⟨w.heap.size, 6, none⟩ = some (.int .i64 q) := by rw [cell_of_row _ _ _ _ _ _ R1.out]; rfl
  have k8 : w1.cell? ⟨w.heap.size, 8, none⟩ = some (.int .i64 sq) := by rw [cell_of_row _ _ _ _ _ _ R1.out]; rfl
  have k9 : w1.cell? ⟨w.heap.size, 9, none⟩ = some (.int .i64 at_) := by rw [cell_of_row _ _ _ _ _ _ R1.out]; rfl
  have k10 : w1.cell? ⟨w.heap.size, 10, none⟩ = some (.slice A10 lg.length c10) := by rw [cell_of_row _ _ _ _ _ _ R1.out]; rfl
  have Hpd : Hid ((decide (ps.length ≤ 1) || off) = (decide ((ps.length : Int) ≤ 1) || off)) := Lib.hid (by congr 1; rw [Bool.eq_iff_iff]; simp; omega)
  rw [Hpd.out] at HF
  by_cases hp : (ps.length : Int) ≤ 1
  rotate_left
  · have dp : decide ((ps.length : Int) ≤ 1) = false := decide_eq_false hp
    have dp2 : ¬ ps.length ≤ 1 := by omega
    cases off
    · have Hf : Hid (r = false) := Lib.hid (by rw [HF.out]; simp [hp])
      go_wp2_with fail
      go_ret
      exact ⟨by rw [Hf.out]; rfl, Hb1.out⟩
    rw [dp] at HF
    have Hoff := True.intro
    by_cases e1 : q ≤ sq
    rotate_left
    · have d1 : decide (q ≤ sq) = false := decide_eq_false e1
      have Hf : Hid (r = false) := Lib.hid (by rw [HF.out, inB_no (a := sq) (by omega)]; simp)
      go_wp2_with fail
      go_ret
      exact ⟨by rw [Hf.out]; rfl, Hb1.out⟩
    have d1 : decide (q ≤ sq) = true := decide_eq_true e1
    by_cases e2 : sq ≤ 1000000000000
    rotate_left
    · have d2 : decide (sq ≤ 1000000000000) = false := decide_eq_false e2
      have Hf : Hid (r = false) := Lib.hid (by rw [HF.out, inB_no (a := sq) (by omega)]; simp)
      go_wp2_with fail
      go_ret
      exact ⟨by rw [Hf.out]; rfl, Hb1.out⟩
    have d2 : decide (sq ≤ 1000000000000) = true := decide_eq_true e2
    by_cases e3 : 0 ≤ at_
    rotate_left
    · have d3 : decide (0 ≤ at_) = false := decide_eq_false e3
      have Hf : Hid (r = false) := Lib.hid (by rw [HF.out, inB_no (a := at_) (by omega)]; simp)
      go_wp2_with fail
      go_ret
      exact ⟨by rw [Hf.out]; rfl, Hb1.out⟩
    have d3 : decide (0 ≤ at_) = true := decide_eq_true e3
    by_cases e4 : at_ ≤ l
    rotate_left
    · have d4 : decide (at_ ≤ l) = false := decide_eq_false e4
      have Hf : Hid (r = false) := Lib.hid (by rw [HF.out, inB_no (a := at_) (by omega)]; simp)
      go_wp2_with fail
      go_ret
      exact ⟨by rw [Hf.out]; rfl, Hb1.out⟩
    have d4 : decide (at_ ≤ l) = true := decide_eq_true e4
    rw [inB_yes (a := sq) e1 e2, inB_yes (a := at_) e3 e4] at HF
    have e1 := True.intro; have e2 := True.intro; have e3 := True.intro; have e4 := True.intro
    go_wp2_with fail
    clear k1 k3 k5 k6 k8 k9 k10 d1 d2 d3 d4
    refine (C5.out _ Hg1.out).mono ?_
    rintro e w2 ⟨rfl, g⟩
    have Hg2 : Hid (Below w0.heap.size w0 w2) := Lib.hid (Hg1.out.trans (g.mono Hg1.out.size))
    have Hb2 := Lib.hid (Hb0.out.trans (Hg2.out.mono Hb0.out.size))
    have R2 := Lib.hid ((Hg2.out.block _ Lt0.out).trans R0.out)
    clear g
    cases a5
    · have Hf : Hid (r = false) := Lib.hid (by rw [HF.out]; simp)
      go_wp2_with fail
      go_ret
      exact ⟨by rw [Hf.out]; rfl, Hb2.out⟩
    have z4 : w2.cell? ⟨w.heap.size, 4, none⟩ = some (.int .i64 b) := by rw [cell_of_row _ _ _ _ _ _ R2.out]; rfl
    have z5 : w2.cell? ⟨w.heap.size, 5, none⟩ = some (.int .i64 l) := by rw [cell_of_row _ _ _ _ _ _ R2.out]; rfl
    have z6 : w2.cell? ⟨w.heap.size, 6, none⟩ = some (.int .i64 q) := by rw [cell_of_row _ _ _ _ _ _ R2.out]; rfl
    have z7 : w2.cell? ⟨w.heap.size, 7, none⟩ = some (.int .i64 t) := by rw [cell_of_row _ _ _ _ _ _ R2.out]; rfl
    have k10 : w2.cell? ⟨w.heap.size, 10, none⟩ = some (.slice A10 lg.length c10) := by rw [cell_of_row _ _ _ _ _ _ R2.out]; rfl
    go_wp2_with fail
    clear z4 z5 z6 z7 k10
    refine (C7.out _ Hg2.out HS2.out.2.1).mono ?_
    rintro e w3 ⟨rfl, g⟩
    have Hg3 : Hid (Below w0.heap.size w0 w3) := Lib.hid (Hg2.out.trans (g.mono Hg2.out.size))
    have Hb3 := Lib.hid (Hb0.out.trans (Hg3.out.mono Hb0.out.size))
    have R3 := Lib.hid ((Hg3.out.block _ Lt0.out).trans R0.out)
    clear g
    cases a7
    · have Hf : Hid (r = false) := Lib.hid (by rw [HF.out]; simp)
      go_wp2_with fail
      go_ret
      exact ⟨by rw [Hf.out]; rfl, Hb3.out⟩
    have k11 : w3.cell? ⟨w.heap.size, 11, none⟩ = some (.slice A11 dt.length c11) := by rw [cell_of_row _ _ _ _ _ _ R3.out]; rfl
    go_wp2_with fail
    clear k11
    refine (C6.out _ Hg3.out).mono ?_
    rintro e w4 ⟨rfl, g⟩
    have Hg4 : Hid (Below w0.heap.size w0 w4) := Lib.hid (Hg3.out.trans (g.mono Hg3.out.size))
    have Hb4 := Lib.hid (Hb0.out.trans (Hg4.out.mono Hb0.out.size))
    have R4 := Lib.hid ((Hg4.out.block _ Lt0.out).trans R0.out)
    clear g
    cases a6
    · have Hf : Hid (r = false) := Lib.hid (by rw [HF.out]; simp)
      go_wp2_with fail
      go_ret
      exact ⟨by rw [Hf.out]; rfl, Hb4.out⟩
    have z4 : w4.cell? ⟨w.heap.size, 4, none⟩ = some (.int .i64 b) := by rw [cell_of_row _ _ _ _ _ _ R4.out]; rfl
    have z5 : w4.cell? ⟨w.heap.size, 5, none⟩ = some (.int .i64 l) := by rw [cell_of_row _ _ _ _ _ _ R4.out]; rfl
    have z6 : w4.cell? ⟨w.heap.size, 6, none⟩ = some (.int .i64 q) := by rw [cell_of_row _ _ _ _ _ _ R4.out]; rfl
    have z7 : w4.cell? ⟨w.heap.size, 7, none⟩ = some (.int .i64 t) := by rw [cell_of_row _ _ _ _ _ _ R4.out]; rfl
    have k11 : w4.cell? ⟨w.heap.size, 11, none⟩ = some (.slice A11 dt.length c11) := by rw [cell_of_row _ _ _ _ _ _ R4.out]; rfl
    go_wp2_with fail
    clear z4 z5 z6 z7 k11
    refine (C8.out _ Hg4.out HS2.out.2.1).mono ?_
    rintro e w5 ⟨rfl, g⟩
    have Hg5 : Hid (Below w0.heap.size w0 w5) := Lib.hid (Hg4.out.trans (g.mono Hg4.out.size))
    have Hb5 := Lib.hid (Hb0.out.trans (Hg5.out.mono Hb0.out.size))
    have R5 := Lib.hid ((Hg5.out.block _ Lt0.out).trans R0.out)
    clear g
    cases a8
    · have Hf : Hid (r = false) := Lib.hid (by rw [HF.out]; simp)
      go_wp2_with fail
      go_ret
      exact ⟨by rw [Hf.out]; rfl, Hb5.out⟩
    have z4 : w5.cell? ⟨w.heap.size, 4, none⟩ = some (.int .i64 b) := by rw [cell_of_row _ _ _ _ _ _ R5.out]; rfl
    have z5 : w5.cell? ⟨w.heap.size, 5, none⟩ = some (.int .i64 l) := by rw [cell_of_row _ _ _ _ _ _ R5.out]; rfl
    have z6 : w5.cell? ⟨w.heap.size, 6, none⟩ = some (.int .i64 q) := by rw [cell_of_row _ _ _ _ _ _ R5.out]; rfl
    have z7 : w5.cell? ⟨w.heap.size, 7, none⟩ = some (.int .i64 t) := by rw [cell_of_row _ _ _ _ _ _ R5.out]; rfl
    have k11 : w5.cell? ⟨w.heap.size, 11, none⟩ = some (.slice A11 dt.length c11) := by rw [cell_of_row _ _ _ _ _ _ R5.out]; rfl
    go_wp2_with fail
    clear z4 z5 z6 z7 k11
    refine (C9.out _ HS2.out.2.1).mono ?_
    rintro e w6 ⟨rfl, g⟩
    have Hg6 : Hid (Below w0.heap.size w0 w6) := Lib.hid (Hg5.out.trans (g.mono Hg5.out.size))
    have Hb6 := Lib.hid (Hb0.out.trans (Hg6.out.mono Hb0.out.size))
    have R6 := Lib.hid ((Hg6.out.block _ Lt0.out).trans R0.out)
    clear g
    have Hf : Hid (r = a9) := Lib.hid (by rw [HF.out]; simp)
    cases a9 <;> (go_wp2_with fail; go_ret; exact ⟨by rw [Hf.out]; rfl, Hb6.out⟩)
  have dp : decide ((ps.length : Int) ≤ 1) = true := decide_eq_true hp
  have dp2 : ps.length ≤ 1 := by omega
  rw [dp] at HF
  by_cases e1 : q ≤ sq
  rotate_left
  · have d1 : decide (q ≤ sq) = false := decide_eq_false e1
    have Hf : Hid (r = false) := Lib.hid (by rw [HF.out, inB_no (a := sq) (by omega)]; simp)
    go_wp2_with fail
    go_ret
    exact ⟨by rw [Hf.out]; rfl, Hb1.out⟩
  have d1 : decide (q ≤ sq) = true := decide_eq_true e1
  by_cases e2 : sq ≤ 1000000000000
  rotate_left
  · have d2 : decide (sq ≤ 1000000000000) = false := decide_eq_false e2
    have Hf : Hid (r = false) := Lib.hid (by rw [HF.out, inB_no (a := sq) (by omega)]; simp)
    go_wp2_with fail
    go_ret
    exact ⟨by rw [Hf.out]; rfl, Hb1.out⟩
  have d2 : decide (sq ≤ 1000000000000) = true := decide_eq_true e2
  by_cases e3 : 0 ≤ at_
  rotate_left
  · have d3 : decide (0 ≤ at_) = false := decide_eq_false e3
    have Hf : Hid (r = false) := Lib.hid (by rw [HF.out, inB_no (a := at_) (by omega)]; simp)
    go_wp2_with fail
    go_ret
    exact ⟨by rw [Hf.out]; rfl, Hb1.out⟩
  have d3 : decide (0 ≤ at_) = true := decide_eq_true e3
  by_cases e4 : at_ ≤ l
  rotate_left
  · have d4 : decide (at_ ≤ l) = false := decide_eq_false e4
    have Hf : Hid (r = false) := Lib.hid (by rw [HF.out, inB_no (a := at_) (by omega)]; simp)
    go_wp2_with fail
    go_ret
    exact ⟨by rw [Hf.out]; rfl, Hb1.out⟩
  have d4 : decide (at_ ≤ l) = true := decide_eq_true e4
  rw [inB_yes (a := sq) e1 e2, inB_yes (a := at_) e3 e4] at HF
  have e1 := True.intro; have e2 := True.intro; have e3 := True.intro; have e4 := True.intro
  go_wp2_with fail
  clear k1 k3 k5 k6 k8 k9 k10 d1 d2 d3 d4
  refine (C5.out _ Hg1.out).mono ?_
  rintro e w2 ⟨rfl, g⟩
  have Hg2 : Hid (Below w0.heap.size w0 w2) := Lib.hid (Hg1.out.trans (g.mono Hg1.out.size))
  have Hb2 := Lib.hid (Hb0.out.trans (Hg2.out.mono Hb0.out.size))
  have R2 := Lib.hid ((Hg2.out.block _ Lt0.out).trans R0.out)
  clear g
  cases a5
  · have Hf : Hid (r = false) := Lib.hid (by rw [HF.out]; simp)
    go_wp2_with fail
    go_ret
    exact ⟨by rw [Hf.out]; rfl, Hb2.out⟩
  have z4 : w2.cell? ⟨w.heap.size, 4, none⟩ = some (.int .i64 b) := by rw [cell_of_row _ _ _ _ _ _ R2.out]; rfl
  have z5 : w2.cell? ⟨w.heap.size, 5, none⟩ = some (.int .i64 l) := by rw [cell_of_row _ _ _ _ _ _ R2.out]; rfl
  have z6 : w2.cell? ⟨w.heap.size, 6, none⟩ = some (.int .i64 q) := by rw [cell_of_row _ _ _ _ _ _ R2.out]; rfl
  have z7 : w2.cell? ⟨w.heap.size, 7, none⟩ = some (.int .i64 t) := by rw [cell_of_row _ _ _ _ _ _ R2.out]; rfl
  have k10 : w2.cell? ⟨w.heap.size, 10, none⟩ = some (.slice A10 lg.length c10) := by rw [cell_of_row _ _ _ _ _ _ R2.out]; rfl
  go_wp2_with fail
  clear z4 z5 z6 z7 k10
  refine (C7.out _ Hg2.out HS2.out.2.1).mono ?_
  rintro e w3 ⟨rfl, g⟩
  have Hg3 : Hid (Below w0.heap.size w0 w3) := Lib.hid (Hg2.out.trans (g.mono Hg2.out.size))
  have Hb3 := Lib.hid (Hb0.out.trans (Hg3.out.mono Hb0.out.size))
  have R3 := Lib.hid ((Hg3.out.block _ Lt0.out).trans R0.out)
  clear g
  cases a7
  · have Hf : Hid (r = false) := Lib.hid (by rw [HF.out]; simp)
    go_wp2_with fail
    go_ret
    exact ⟨by rw [Hf.out]; rfl, Hb3.out⟩
  have k11 : w3.cell? ⟨w.heap.size, 11, none⟩ = some (.slice A11 dt.length c11) := by rw [cell_of_row _ _ _ _ _ _ R3.out]; rfl
  go_wp2_with fail
  clear k11
  refine (C6.out _ Hg3.out).mono ?_
  rintro e w4 ⟨rfl, g⟩
  have Hg4 : Hid (Below w0.heap.size w0 w4) := Lib.hid (Hg3.out.trans (g.mono Hg3.out.size))
  have Hb4 := Lib.hid (Hb0.out.trans (Hg4.out.mono Hb0.out.size))
  have R4 := Lib.hid ((Hg4.out.block _ Lt0.out).trans R0.out)
  clear g
  cases a6
  · have Hf : Hid (r = false) := Lib.hid (by rw [HF.out]; simp)
    go_wp2_with fail
    go_ret
    exact ⟨by rw [Hf.out]; rfl, Hb4.out⟩
  have z4 : w4.cell? ⟨w.heap.size, 4, none⟩ = some (.int .i64 b) := by rw [cell_of_row _ _ _ _ _ _ R4.out]; rfl
  have z5 : w4.cell? ⟨w.heap.size, 5, none⟩ = some (.int .i64 l) := by rw [cell_of_row _ _ _ _ _ _ R4.out]; rfl
  have z6 : w4.cell? ⟨w.heap.size, 6, none⟩ = some (.int .i64 q) := by rw [cell_of_row _ _ _ _ _ _ R4.out]; rfl
  have z7 : w4.cell? ⟨w.heap.size, 7, none⟩ = some (.int .i64 t) := by rw [cell_of_row _ _ _ _ _ _ R4.out]; rfl
  have k11 : w4.cell? ⟨w.heap.size, 11, none⟩ = some (.slice A11 dt.length c11) := by rw [cell_of_row _ _ _ _ _ _ R4.out]; rfl
  go_wp2_with fail
  clear z4 z5 z6 z7 k11
  refine (C8.out _ Hg4.out HS2.out.2.1).mono ?_
  rintro e w5 ⟨rfl, g⟩
  have Hg5 : Hid (Below w0.heap.size w0 w5) := Lib.hid (Hg4.out.trans (g.mono Hg4.out.size))
  have Hb5 := Lib.hid (Hb0.out.trans (Hg5.out.mono Hb0.out.size))
  have R5 := Lib.hid ((Hg5.out.block _ Lt0.out).trans R0.out)
  clear g
  cases a8
  · have Hf : Hid (r = false) := Lib.hid (by rw [HF.out]; simp)
    go_wp2_with fail
    go_ret
    exact ⟨by rw [Hf.out]; rfl, Hb5.out⟩
  have z4 : w5.cell? ⟨w.heap.size, 4, none⟩ = some (.int .i64 b) := by rw [cell_of_row _ _ _ _ _ _ R5.out]; rfl
  have z5 : w5.cell? ⟨w.heap.size, 5, none⟩ = some (.int .i64 l) := by rw [cell_of_row _ _ _ _ _ _ R5.out]; rfl
  have z6 : w5.cell? ⟨w.heap.size, 6, none⟩ = some (.int .i64 q) := by rw [cell_of_row _ _ _ _ _ _ R5.out]; rfl
  have z7 : w5.cell? ⟨w.heap.size, 7, none⟩ = some (.int .i64 t) := by rw [cell_of_row _ _ _ _ _ _ R5.out]; rfl
  have k11 : w5.cell? ⟨w.heap.size, 11, none⟩ = some (.slice A11 dt.length c11) := by rw [cell_of_row _ _ _ _ _ _ R5.out]; rfl
  go_wp2_with fail
  clear z4 z5 z6 z7 k11
  refine (C9.out _ HS2.out.2.1).mono ?_
  rintro e w6 ⟨rfl, g⟩
  have Hg6 : Hid (Below w0.heap.size w0 w6) := Lib.hid (Hg5.out.trans (g.mono Hg5.out.size))
  have Hb6 := Lib.hid (Hb0.out.trans (Hg6.out.mono Hb0.out.size))
  have R6 := Lib.hid ((Hg6.out.block _ Lt0.out).trans R0.out)
  clear g
  have Hf : Hid (r = a9) := Lib.hid (by rw [HF.out]; simp)
  cases a9 <;> (go_wp2_with fail; go_ret; exact ⟨by rw [Hf.out]; rfl, Hb6.out⟩)
end Go.Proofs.YtplfnlalmcpcaaaGreat
