/- The first message of a kind: both sides. No statement is proved here. -/
import Derived.Test.YtlickjmdlooapaaMsO
import Derived.Test.YtlickjmdlooapaaAcc
namespace Go.Proofs.Ytlickjmdlooapaa
open Go.RowKit
set_option linter.unusedVariables false
theorem three_new (w : World) (a b c : Obj) : (((w.alloc a).alloc b).alloc c).heap[w.heap.size]? = some a ∧ (((w.alloc a).alloc b).alloc c).heap[w.heap.size + 1]? = some b ∧ (((w.alloc a).alloc b).alloc c).heap[w.heap.size + 1 + 1]? = some c ∧ (((w.alloc a).alloc b).alloc c).heap.size = w.heap.size + 3 ∧ Below w.heap.size w (((w.alloc a).alloc b).alloc c) := by
  refine ⟨?_, ?_, ?_, by simp, (((Below.refl _ w).alloc (Nat.le_refl _) _).alloc (by simp) _).alloc (by simp; omega) _⟩
  · exact (((Below.refl _ ((w.alloc a).alloc b)).alloc (Nat.le_refl _) c).block _ (by simp; omega)).trans (heap_alloc2_old w a b)
  · exact (((Below.refl _ ((w.alloc a).alloc b)).alloc (Nat.le_refl _) c).block _ (by simp)).trans (heap_alloc2_new w a b)
  · have := heap_alloc_new ((w.alloc a).alloc b) c
    simpa using this
set_option maxHeartbeats 2000000 in
set_option maxRecDepth 100000 in
theorem implMessageOf_any {B : Nat} {w : World} {v : Value} {k r x : Int} {ms : List EM} (h : RiM B w v ms) (hB : B ≤ w.heap.size) :
    Calls Try.prog 46 #[.agg #[.int .i64 k, .int .i64 r, v], .int .i64 x] w (GivesB (.tuple #[.agg (emA (moV k r ms x)), .bool (moB k r ms x)]) w) := by
  have H := Lib.hid h; obtain ⟨A, cap, rfl, hl, hcc, hx⟩ := h
  have Hx := Lib.hid hx; clear hx
  unfold maxLen at hcc
  have HW := Lib.hid (three_new w (.cells #[.int .i64 k, .int .i64 r, .slice A ms.length cap] 64 (0, 0)) (.cells #[.int .i64 x] 2 (0, 0)) (.cells #[.int .i64 0, .int .i64 0, .string ⟨#[]⟩] 70 (0, 0)))
  have HY : Hid (∀ j (hj : j < ms.length), hdrOk k r ms = true → ms[j].1 = x → (∀ i (hi : i < ms.length), i < j → ms[i].1 ≠ x) → moB k r ms x = true ∧ moV k r ms x = ms[j]) := Lib.hid (fun j hj hv he hno => mo_yes hv hj he hno)
  have HN : Hid ((∀ i (hi : i < ms.length), ms[i].1 ≠ x) → moB k r ms x = false ∧ moV k r ms x = (0, 0, ⟨#[]⟩)) := Lib.hid mo_no
  have HV : Hid (hdrOk k r ms = false → moB k r ms x = false ∧ moV k r ms x = (0, 0, ⟨#[]⟩)) := Lib.hid mo_inv
  generalize moB k r ms x = yb at *
  generalize moV k r ms x = yv at *
  go_enter Try.func46, Try.ntmps46
  go_wp2_with fail
  generalize (((w.alloc (.cells #[.int .i64 k, .int .i64 r, .slice A ms.length cap] 64)).alloc (.cells #[.int .i64 x] 2)).alloc (.cells #[.int .i64 0, .int .i64 0, .string ⟨#[]⟩] 70)) = w0 at *
  have RH := Lib.hid HW.out.1; have RC := Lib.hid HW.out.2.1; have RM := Lib.hid HW.out.2.2.1
  have LT : Hid (w.heap.size + 3 ≤ w0.heap.size) := Lib.hid (by have := HW.out.2.2.2.1; omega)
  have HB0 := Lib.hid HW.out.2.2.2.2
  clear HW
  refine (indexKind_any (H.out.at hB HB0.out) (Nat.le_refl _) RC.out).mono ?_
  rintro e w1 ⟨⟨n, rfl, hix⟩, g⟩
  have HIX := Lib.hid hix; clear hix
  have HB1 := Lib.hid (HB0.out.trans (g.mono HB0.out.size))
  have RH1 := Lib.hid ((g.block _ (by have := LT.out; omega)).trans RH.out)
  have RM1 := Lib.hid ((g.block _ (by have := LT.out; omega)).trans RM.out)
  have LT1 : Hid (w.heap.size + 3 ≤ w1.heap.size) := Lib.hid (by have := LT.out; have := g.size; omega)
  clear g RH RC RM LT
  rcases HIX.out with ⟨rfl, hno⟩ | ⟨j, hj, rfl, he, hno⟩
  · have Hf := Lib.hid (HN.out hno)
    clear hno
    go_wp2_with (refine wpList_store_row rfl 70 (.tmp 4) (.tmp 18) rfl (w.heap.size + 1 + 1) #[.int .i64 0, .int .i64 0, .string ⟨#[]⟩] rfl rfl 70 _ RM1.out (infoM3 _ _ _) rfl oneM3 ?_)
    refine bodyPost_ret (v := .tuple #[.agg #[.int .i64 0, .int .i64 0, .string ⟨#[]⟩], .bool false]) ?_ rfl ?_
    · exact results_cell_row2 rfl _ _ (w.heap.size + 1 + 1) 70 _ (0, 0) _ _ rfl rfl (setRow_heap _ _ _ _ _ _ RM1.out) Try.underlying70 rfl (by kernel_rfl)
    · exact ⟨by rw [Hf.out.1, Hf.out.2]; rfl, below_setRow HB1.out (by omega) _⟩
  have HB2 := Lib.hid HB1.out
  have q0 : w1.cell? ⟨w.heap.size, 0, none⟩ = some (.int .i64 k) := by rw [cell_of_row _ _ _ _ _ _ RH1.out]; rfl
  have q1 : w1.cell? ⟨w.heap.size, 1, none⟩ = some (.int .i64 r) := by rw [cell_of_row _ _ _ _ _ _ RH1.out]; rfl
  have q2 : w1.cell? ⟨w.heap.size, 2, none⟩ = some (.slice A ms.length cap) := by rw [cell_of_row _ _ _ _ _ _ RH1.out]; rfl
  have HF : Hid (hdrOk k r ms = true → yb = true ∧ yv = ms[j]) := Lib.hid (fun h => HY.out j hj h he hno)
  have HC := Lib.hid (implValidHeader_any (k := k) (r := r) (H.out.at hB HB1.out) (Nat.le_refl _))
  obtain ⟨b1, o, rfl, hb, hc0, hc1, hc2, -⟩ := Hx.out j hj
  have HE : Hid (∀ W, Below w.heap.size w W → ∀ q u, [Value.int .i64 ms[j].1, .int .i64 ms[j].2.1, .string ms[j].2.2][q]? = some u → W.cell? ⟨b1, o + j * 3 + q, none⟩ = some u) := Lib.hid (fun W hW => cells_M (by rw [hW.cell (show b1 < _ from by omega)]; exact hc0) (by rw [hW.cell (show b1 < _ from by omega)]; exact hc1) (by rw [hW.cell (show b1 < _ from by omega)]; exact hc2))
  clear hc0 hc1 hc2 he hno HY HN
  generalize hdrOk k r ms = z at *
  go_wp2_with fail
  clear q0 q1 q2
  refine HC.out.mono ?_
  rintro e w2 ⟨rfl, g⟩
  have HB2 := Lib.hid (HB1.out.trans (g.mono HB1.out.size))
  have RH2 := Lib.hid ((g.block _ (by have := LT1.out; omega)).trans RH1.out)
  have RM2 := Lib.hid ((g.block _ (by have := LT1.out; omega)).trans RM1.out)
  clear g
  cases z
  · have Hf := Lib.hid (HV.out rfl)
    go_wp2_with (refine wpList_store_row rfl 70 (.tmp 4) (.tmp 18) rfl (w.heap.size + 1 + 1) #[.int .i64 0, .int .i64 0, .string ⟨#[]⟩] rfl rfl 70 _ RM2.out (infoM3 _ _ _) rfl oneM3 ?_)
    refine bodyPost_ret (v := .tuple #[.agg #[.int .i64 0, .int .i64 0, .string ⟨#[]⟩], .bool false]) ?_ rfl ?_
    · exact results_cell_row2 rfl _ _ (w.heap.size + 1 + 1) 70 _ (0, 0) _ _ rfl rfl (setRow_heap _ _ _ _ _ _ RM2.out) Try.underlying70 rfl (by kernel_rfl)
    · exact ⟨by rw [Hf.out.1, Hf.out.2]; rfl, below_setRow HB2.out (by omega) _⟩
  have Hf := Lib.hid (HF.out rfl)
  have Hld := Lib.hid (run_load_cells (P := Try.prog) w2 b1 (o + j * 3) 70 _ _ (HE.out _ HB2.out) Try.underlying70 rfl)
  have q2 : w2.cell? ⟨w.heap.size, 2, none⟩ = some (.slice (some ⟨b1, o, none⟩) ms.length cap) := by rw [cell_of_row _ _ _ _ _ _ RH2.out]; rfl
  go_wp2_with (first | (refine wpList_load_agg rfl 70 (.tmp 22) rfl _ rfl _ Hld.out ?_) | (refine wpList_store_row rfl 70 (.tmp 4) (.tmp 23) rfl (w.heap.size + 1 + 1) #[.int .i64 ms[j].1, .int .i64 ms[j].2.1, .string ms[j].2.2] rfl rfl 70 _ RM2.out (infoM3 _ _ _) rfl oneM3 ?_))
  refine bodyPost_ret (v := .tuple #[.agg #[.int .i64 ms[j].1, .int .i64 ms[j].2.1, .string ms[j].2.2], .bool true]) ?_ rfl ?_
  · exact results_cell_row2 rfl _ _ (w.heap.size + 1 + 1) 70 _ (0, 0) _ _ rfl rfl (setRow_heap _ _ _ _ _ _ RM2.out) Try.underlying70 rfl (by kernel_rfl)
  · exact ⟨by rw [Hf.out.1, Hf.out.2]; rfl, below_setRow HB2.out (by omega) _⟩
set_option maxHeartbeats 2000000 in
set_option maxRecDepth 100000 in
theorem specMessageOf_any {B : Nat} {w : World} {v : Value} {k r x : Int} {ms : List EM} (h : RiM B w v ms) (hB : B ≤ w.heap.size) :
    Calls Try.prog 45 #[.agg #[.int .i64 k, .int .i64 r, v], .int .i64 x] w (GivesB (.tuple #[.agg (emA (moV k r ms x)), .bool (moB k r ms x)]) w) := by
  have H := Lib.hid h; obtain ⟨A, cap, rfl, hl, hcc, hx⟩ := h
  have Hx := Lib.hid hx; clear hx
  unfold maxLen at hcc
  have RH : Hid (((w.alloc (.cells #[.int .i64 k, .int .i64 r, .slice A ms.length cap] 64)).alloc (.cells #[.int .i64 0, .int .i64 0, .string ⟨#[]⟩] 70)).heap[w.heap.size]? = some (.cells #[.int .i64 k, .int .i64 r, .slice A ms.length cap] 64 (0, 0))) := Lib.hid (heap_alloc2_old w _ _)
  have RM : Hid (((w.alloc (.cells #[.int .i64 k, .int .i64 r, .slice A ms.length cap] 64)).alloc (.cells #[.int .i64 0, .int .i64 0, .string ⟨#[]⟩] 70)).heap[w.heap.size + 1]? = some (.cells #[.int .i64 0, .int .i64 0, .string ⟨#[]⟩] 70 (0, 0))) := Lib.hid (heap_alloc2_new w _ _)
  have LT : Hid (((w.alloc (.cells #[.int .i64 k, .int .i64 r, .slice A ms.length cap] 64)).alloc (.cells #[.int .i64 0, .int .i64 0, .string ⟨#[]⟩] 70)).heap.size = w.heap.size + 2) := Lib.hid (by simp)
  have HB0 : Hid (Below w.heap.size w ((w.alloc (.cells #[.int .i64 k, .int .i64 r, .slice A ms.length cap] 64)).alloc (.cells #[.int .i64 0, .int .i64 0, .string ⟨#[]⟩] 70))) := Lib.hid (((Below.refl _ w).alloc (Nat.le_refl _) _).alloc (by simp) _)
  have HY : Hid (∀ j (hj : j < ms.length), hdrOk k r ms = true → ms[j].1 = x → (∀ i (hi : i < ms.length), i < j → ms[i].1 ≠ x) → moB k r ms x = true ∧ moV k r ms x = ms[j]) := Lib.hid (fun j hj hv he hno => mo_yes hv hj he hno)
  have HN : Hid ((∀ i (hi : i < ms.length), ms[i].1 ≠ x) → moB k r ms x = false ∧ moV k r ms x = (0, 0, ⟨#[]⟩)) := Lib.hid mo_no
  have HV : Hid (hdrOk k r ms = false → moB k r ms x = false ∧ moV k r ms x = (0, 0, ⟨#[]⟩)) := Lib.hid mo_inv
  have HC0 : Hid (∀ W, Below w.heap.size w W → Calls Try.prog 107 #[.agg #[.int .i64 k, .int .i64 r, .slice A ms.length cap]] W (GivesB (.bool (hdrOk k r ms)) W)) := Lib.hid (fun W hW => l14Ok_any (k := k) (r := r) (H.out.at hB hW) (Nat.le_refl _))
  generalize moB k r ms x = yb at *
  generalize moV k r ms x = yv at *
  generalize hdrOk k r ms = z at *
  go_enter Try.func45, Try.ntmps45
  go_wp2_with fail
  generalize ((w.alloc (.cells #[.int .i64 k, .int .i64 r, .slice A ms.length cap] 64)).alloc (.cells #[.int .i64 0, .int .i64 0, .string ⟨#[]⟩] 70)) = w0 at *
  go_loopw [6] (fun i wr => ∃ j : Nat, j ≤ ms.length ∧ i = .int .i64 j ∧ Below w0.heap.size w0 wr ∧ (∀ i (hi : i < ms.length), i < j → ms[i].1 ≠ x)) (fun i _ => ms.length - (intOf i).toNat)
  case atStart => exact ⟨0, Nat.zero_le _, rfl, Below.refl _ _, fun i _ h => absurd h (by omega)⟩
  case round =>
    obtain ⟨j, hj, rfl, hbel, hno⟩ := hrel
    have Hno := Lib.hid hno; have Hbel := Lib.hid hbel
    clear hno
    have hbw : Below w.heap.size w wr := HB0.out.trans (hbel.mono HB0.out.size)
    have RH1 := Lib.hid ((hbel.block _ (by have := LT.out; omega)).trans RH.out)
    have RM1 := Lib.hid ((hbel.block _ (by have := LT.out; omega)).trans RM.out)
    have q0 : wr.cell? ⟨w.heap.size, 0, none⟩ = some (.int .i64 k) := by rw [cell_of_row _ _ _ _ _ _ RH1.out]; rfl
    have q1 : wr.cell? ⟨w.heap.size, 1, none⟩ = some (.int .i64 r) := by rw [cell_of_row _ _ _ _ _ _ RH1.out]; rfl
    have q2 : wr.cell? ⟨w.heap.size, 2, none⟩ = some (.slice A ms.length cap) := by rw [cell_of_row _ _ _ _ _ _ RH1.out]; rfl
    have LT1 : Hid (w.heap.size + 2 ≤ wr.heap.size) := Lib.hid (by have := LT.out; have := hbel.size; omega)
    have HB1 := Lib.hid hbw
    by_cases hlt : j < ms.length
    rotate_left
    · have Hf := Lib.hid (HN.out (fun i hi => Hno.out i hi (by omega)))
      clear hbel hbw
      go_wp2_with (refine wpList_store_row rfl 70 (.tmp 4) (.tmp 31) rfl (w.heap.size + 1) #[.int .i64 0, .int .i64 0, .string ⟨#[]⟩] rfl rfl 70 _ RM1.out (infoM3 _ _ _) rfl oneM3 ?_)
      refine bodyPost_ret (v := .tuple #[.agg #[.int .i64 0, .int .i64 0, .string ⟨#[]⟩], .bool false]) ?_ rfl ?_
      · exact results_cell_row2 rfl _ _ (w.heap.size + 1) 70 _ (0, 0) _ _ rfl rfl (setRow_heap _ _ _ _ _ _ RM1.out) Try.underlying70 rfl (by kernel_rfl)
      · exact ⟨by rw [Hf.out.1, Hf.out.2]; rfl, below_setRow HB1.out (by omega) _⟩
    obtain ⟨b1, o, rfl, hb, hc0, hc1, hc2, -⟩ := Hx.out j hlt
    have HE : Hid (∀ W, Below w.heap.size w W → ∀ q u, [Value.int .i64 ms[j].1, .int .i64 ms[j].2.1, .string ms[j].2.2][q]? = some u → W.cell? ⟨b1, o + j * 3 + q, none⟩ = some u) := Lib.hid (fun W hW => cells_M (by rw [hW.cell (show b1 < _ from by omega)]; exact hc0) (by rw [hW.cell (show b1 < _ from by omega)]; exact hc1) (by rw [hW.cell (show b1 < _ from by omega)]; exact hc2))
    have HC := Lib.hid (HC0.out _ hbw)
    clear hc0 hc1 hc2 hbel hbw
    go_wp2_with fail
    clear q0 q1 q2
    refine HC.out.mono ?_
    rintro e w2 ⟨rfl, g⟩
    have HB2 := Lib.hid (HB1.out.trans (g.mono HB1.out.size))
    have Hbel2 := Lib.hid (Hbel.out.trans (g.mono Hbel.out.size))
    have RH2 := Lib.hid ((g.block _ (by have := LT1.out; omega)).trans RH1.out)
    have RM2 := Lib.hid ((g.block _ (by have := LT1.out; omega)).trans RM1.out)
    clear g HC
    cases z
    · have Hf := Lib.hid (HV.out rfl)
      go_wp2_with (refine wpList_store_row rfl 70 (.tmp 4) (.tmp 31) rfl (w.heap.size + 1) #[.int .i64 0, .int .i64 0, .string ⟨#[]⟩] rfl rfl 70 _ RM2.out (infoM3 _ _ _) rfl oneM3 ?_)
      refine bodyPost_ret (v := .tuple #[.agg #[.int .i64 0, .int .i64 0, .string ⟨#[]⟩], .bool false]) ?_ rfl ?_
      · exact results_cell_row2 rfl _ _ (w.heap.size + 1) 70 _ (0, 0) _ _ rfl rfl (setRow_heap _ _ _ _ _ _ RM2.out) Try.underlying70 rfl (by kernel_rfl)
      · exact ⟨by rw [Hf.out.1, Hf.out.2]; rfl, below_setRow HB2.out (by omega) _⟩
    have q2 : w2.cell? ⟨w.heap.size, 2, none⟩ = some (.slice (some ⟨b1, o, none⟩) ms.length cap) := by rw [cell_of_row _ _ _ _ _ _ RH2.out]; rfl
    have q3 : w2.cell? ⟨b1, o + j * 3, none⟩ = some (.int .i64 ms[j].1) := HE.out _ HB2.out 0 _ rfl
    by_cases he : ms[j].1 = x
    · have Hf := Lib.hid (HY.out j hlt rfl he Hno.out)
      have x1 : (ms[j].1 == x) = true := by simpa using he
      have Hld := Lib.hid (run_load_cells (P := Try.prog) w2 b1 (o + j * 3) 70 _ _ (HE.out _ HB2.out) Try.underlying70 rfl)
      clear he
      go_wp2_with (first | (refine wpList_load_agg rfl 70 (.tmp 29) rfl _ rfl _ Hld.out ?_) | (refine wpList_store_row rfl 70 (.tmp 4) (.tmp 30) rfl (w.heap.size + 1) #[.int .i64 ms[j].1, .int .i64 ms[j].2.1, .string ms[j].2.2] rfl rfl 70 _ RM2.out (infoM3 _ _ _) rfl oneM3 ?_))
      refine bodyPost_ret (v := .tuple #[.agg #[.int .i64 ms[j].1, .int .i64 ms[j].2.1, .string ms[j].2.2], .bool true]) ?_ rfl ?_
      · exact results_cell_row2 rfl _ _ (w.heap.size + 1) 70 _ (0, 0) _ _ rfl rfl (setRow_heap _ _ _ _ _ _ RM2.out) Try.underlying70 rfl (by kernel_rfl)
      · exact ⟨by rw [Hf.out.1, Hf.out.2]; rfl, below_setRow HB2.out (by omega) _⟩
    · have x1 : (ms[j].1 == x) = false := beq_eq_false_iff_ne.2 he
      have Hno2 : Hid (∀ i (hi : i < ms.length), i < j + 1 → ms[i].1 ≠ x) := Lib.hid (fun i hi hij => by
        rcases Nat.lt_or_ge i j with h3 | h3
        · exact Hno.out i hi h3
        · obtain rfl : i = j := by omega
          exact he)
      clear he
      generalize ms[j].1 = y at *
      go_wp2_with fail
      go_roundw
      case rel => exact ⟨j + 1, by omega, by go_num, Hbel2.out, Hno2.out⟩
      case measure => simp [intOf]; omega
end Go.Proofs.Ytlickjmdlooapaa
