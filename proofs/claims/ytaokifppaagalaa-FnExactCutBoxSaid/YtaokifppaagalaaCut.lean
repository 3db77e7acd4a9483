/- Contracts of the model's function that cuts two boxes. No statement is proved here. -/
import Derived.Test.YtaokifppaagalaaAcc
import Derived.Test.YtaokifppaagalaaBsz
namespace Go.Proofs.Ytaokifppaagalaa
open Go.RowKit
set_option linter.unusedVariables false
theorem l00Max_is {a b r : Int} (hr : max a b = r) (w : World) : Calls Try.prog 99 #[.int .i64 a, .int .i64 b] w (Quiet (.int .i64 r) w) := by
  have Hr := Lib.hid hr; clear hr
  by_cases h : b < a
  · have Hf : Hid (r = a) := Lib.hid (by rw [← Hr.out]; omega)
    go_enter Try.func99, Try.ntmps99
    go_wp2
    go_ret
    exact ⟨by rw [Hf.out]; rfl, rfl⟩
  · have Hf : Hid (r = b) := Lib.hid (by rw [← Hr.out]; omega)
    go_enter Try.func99, Try.ntmps99
    go_wp2
    go_ret
    exact ⟨by rw [Hf.out]; rfl, rfl⟩
theorem l00Min_is {a b r : Int} (hr : min a b = r) (w : World) : Calls Try.prog 100 #[.int .i64 a, .int .i64 b] w (Quiet (.int .i64 r) w) := by
  have Hr := Lib.hid hr; clear hr
  by_cases h : a < b
  · have Hf : Hid (r = a) := Lib.hid (by rw [← Hr.out]; omega)
    go_enter Try.func100, Try.ntmps100
    go_wp2
    go_ret
    exact ⟨by rw [Hf.out]; rfl, rfl⟩
  · have Hf : Hid (r = b) := Lib.hid (by rw [← Hr.out]; omega)
    go_enter Try.func100, Try.ntmps100
    go_wp2
    go_ret
    exact ⟨by rw [Hf.out]; rfl, rfl⟩
def cutL (xs ys : List Int) : List Int := List.zipWith max xs ys
def cutM (ms ns : List Int) : List Int := List.zipWith min ms ns
def cutP (xs ms ys ns : List Int) (i : Nat) : Bool := decide ((cutL xs ys).getD i 0 < (cutM ms ns).getD i 0)
/-- Do the boxes meet? -/
def cutOk (xs ms ys ns : List Int) : Bool := boxOk xs ms && (boxOk ys ns && (decide (xs.length = ys.length) && allTo (cutP xs ms ys ns) xs.length))
def cutLo (xs ms ys ns : List Int) : List Int := if cutOk xs ms ys ns then cutL xs ys else []
def cutHi (xs ms ys ns : List Int) : List Int := if cutOk xs ms ys ns then cutM ms ns else []
theorem cutOk_a {xs ms ys ns : List Int} (h : boxOk xs ms = false) : cutOk xs ms ys ns = false := by simp [cutOk, h]
theorem cutOk_b {xs ms ys ns : List Int} (h : boxOk ys ns = false) : cutOk xs ms ys ns = false := by simp [cutOk, h]
theorem cutOk_n {xs ms ys ns : List Int} (h : ¬ xs.length = ys.length) : cutOk xs ms ys ns = false := by simp [cutOk, h]
theorem cutOk_bad {xs ms ys ns : List Int} {k : Nat} (hk : k < xs.length) (h : cutP xs ms ys ns k = false) : cutOk xs ms ys ns = false := by simp [cutOk, allTo_bad _ k _ hk h]
theorem cutOk_end {xs ms ys ns : List Int} (h1 : boxOk xs ms = true) (h2 : boxOk ys ns = true) (hn : xs.length = ys.length) (h : allTo (cutP xs ms ys ns) xs.length = true) : cutOk xs ms ys ns = true := by simp [cutOk, h1, h2, h]; exact hn
theorem cutL_len {xs ys : List Int} (hn : xs.length = ys.length) : (cutL xs ys).length = xs.length := by simp [cutL, List.length_zipWith]; omega
theorem cutM_len {ms ns : List Int} (hn : ms.length = ns.length) : (cutM ms ns).length = ms.length := by simp [cutM, List.length_zipWith]; omega
theorem cutL_at (xs ys : List Int) (k : Nat) (h : k < (cutL xs ys).length) (h1 : k < xs.length) (h2 : k < ys.length) : (cutL xs ys)[k] = max xs[k] ys[k] := by simp [cutL]
theorem cutM_at (xs ys : List Int) (k : Nat) (h : k < (cutM xs ys).length) (h1 : k < xs.length) (h2 : k < ys.length) : (cutM xs ys)[k] = min xs[k] ys[k] := by simp [cutM]
theorem cutP_at {xs ms ys ns : List Int} (k : Nat) (h : k < (cutL xs ys).length) (h2 : k < (cutM ms ns).length) : cutP xs ms ys ns k = decide ((cutL xs ys)[k] < (cutM ms ns)[k]) := by unfold cutP; rw [getD_at _ _ h, getD_at _ _ h2]
set_option maxHeartbeats 4000000 in
set_option maxRecDepth 100000 in
theorem specCut_no {B : Nat} {w : World} {v1 v2 v3 v4 : Value} {xs ms ys ns : List Int} (h1 : Ri B w v1 xs) (h2 : Ri B w v2 ms) (h3 : Ri B w v3 ys) (h4 : Ri B w v4 ns) (hB : B ≤ w.heap.size) (hno : boxOk xs ms = false ∨ boxOk ys ns = false ∨ ¬ xs.length = ys.length) :
    Calls Try.prog 51 #[.agg #[v1, v2], .agg #[v3, v4]] w (AnsAt (cutLo xs ms ys ns) (cutHi xs ms ys ns) (.bool (cutOk xs ms ys ns)) w) := by
  have H1 := Lib.hid h1; have H2 := Lib.hid h2; have H3 := Lib.hid h3; have H4 := Lib.hid h4
  obtain ⟨A1, c1, rfl, hl1, hm1, hx1⟩ := h1
  obtain ⟨A2, c2, rfl, hl2, hm2, hx2⟩ := h2
  obtain ⟨A3, c3, rfl, hl3, hm3, hx3⟩ := h3
  obtain ⟨A4, c4, rfl, hl4, hm4, hx4⟩ := h4
  have Hx1 := Lib.hid hx1; have Hx2 := Lib.hid hx2; have Hx3 := Lib.hid hx3; have Hx4 := Lib.hid hx4; clear hx1 hx2 hx3 hx4
  unfold maxLen at hm1 hm2 hm3 hm4
  generalize hr : cutOk xs ms ys ns = r
  have HL : Hid (cutLo xs ms ys ns = if r then cutL xs ys else []) := Lib.hid (by unfold cutLo; rw [hr])
  have HM : Hid (cutHi xs ms ys ns = if r then cutM ms ns else []) := Lib.hid (by unfold cutHi; rw [hr])
  generalize cutLo xs ms ys ns = Lo at *
  generalize cutHi xs ms ys ns = Hi at *
  have Hr := Lib.hid hr; clear hr
  have HB0 : Hid (Below w.heap.size w (((w.alloc (.cells #[.slice A1 xs.length c1, .slice A2 ms.length c2] 55)).alloc (.cells #[.slice A3 ys.length c3, .slice A4 ns.length c4] 55)).alloc (.cells #[.slice none 0 0, .slice none 0 0] 55))) := Lib.hid ((((Below.refl _ w).alloc (Nat.le_refl _) _).alloc (by simp) _).alloc (by simp; omega) _)
  have Hz0 : Hid ((((w.alloc (.cells #[.slice A1 xs.length c1, .slice A2 ms.length c2] 55)).alloc (.cells #[.slice A3 ys.length c3, .slice A4 ns.length c4] 55)).alloc (.cells #[.slice none 0 0, .slice none 0 0] 55)).heap.size = w.heap.size + 3) := Lib.hid (by simp)
  have Hr0 : Hid ((((w.alloc (.cells #[.slice A1 xs.length c1, .slice A2 ms.length c2] 55)).alloc (.cells #[.slice A3 ys.length c3, .slice A4 ns.length c4] 55)).alloc (.cells #[.slice none 0 0, .slice none 0 0] 55)).heap[w.heap.size + 2]? = some (.cells #[.slice none 0 0, .slice none 0 0] 55 (0, 0))) := Lib.hid (Tri.start w 55 55 #[.slice A1 xs.length c1, .slice A2 ms.length c2] #[.slice A3 ys.length c3, .slice A4 ns.length c4] #[.slice none 0 0, .slice none 0 0]).2.2.1
  have Ha0 : Hid ((((w.alloc (.cells #[.slice A1 xs.length c1, .slice A2 ms.length c2] 55)).alloc (.cells #[.slice A3 ys.length c3, .slice A4 ns.length c4] 55)).alloc (.cells #[.slice none 0 0, .slice none 0 0] 55)).heap[w.heap.size]? = some (.cells #[.slice A1 xs.length c1, .slice A2 ms.length c2] 55 (0, 0))) := Lib.hid (Tri.start w 55 55 #[.slice A1 xs.length c1, .slice A2 ms.length c2] #[.slice A3 ys.length c3, .slice A4 ns.length c4] #[.slice none 0 0, .slice none 0 0]).1
  have Hb0 : Hid ((((w.alloc (.cells #[.slice A1 xs.length c1, .slice A2 ms.length c2] 55)).alloc (.cells #[.slice A3 ys.length c3, .slice A4 ns.length c4] 55)).alloc (.cells #[.slice none 0 0, .slice none 0 0] 55)).heap[w.heap.size + 1]? = some (.cells #[.slice A3 ys.length c3, .slice A4 ns.length c4] 55 (0, 0))) := Lib.hid (Tri.start w 55 55 #[.slice A1 xs.length c1, .slice A2 ms.length c2] #[.slice A3 ys.length c3, .slice A4 ns.length c4] #[.slice none 0 0, .slice none 0 0]).2.1
  have Hi9 : Hid ((Try.prog.info? 55).map (·.size) = some (#[.slice none 0 0, .slice none 0 0] : Array Value).size) := Lib.hid (by kernel_rfl)
  have H19 : Hid ((#[.slice none 0 0, .slice none 0 0] : Array Value).all (·.oneCell') = true) := Lib.hid (by simp [Value.oneCell'])
  cases ha : boxOk xs ms
  · have Ho := Lib.hid ha
    have Hf : Hid (r = false) := Lib.hid (by rw [← Hr.out]; exact cutOk_a ha)
    clear ha hno
    go_enter Try.func51, Try.ntmps51
    go_wp2_with fail
    generalize (((w.alloc (.cells #[.slice A1 xs.length c1, .slice A2 ms.length c2] 55)).alloc (.cells #[.slice A3 ys.length c3, .slice A4 ns.length c4] 55)).alloc (.cells #[.slice none 0 0, .slice none 0 0] 55)) = W0 at *
    refine (l07Box_is Ho.out (H1.out.at hB HB0.out) (H2.out.at hB HB0.out) (Nat.le_refl _)).mono ?_
    rintro e W1 ⟨rfl, g⟩
    have HB1 : Hid (Below w.heap.size w W1) := Lib.hid (HB0.out.trans (g.mono HB0.out.size))
    have Hz1 : Hid (w.heap.size + 3 ≤ W1.heap.size) := Lib.hid (by have := Hz0.out; have := g.size; omega)
    have Hr1 : Hid (W1.heap[w.heap.size + 2]? = some (.cells #[.slice none 0 0, .slice none 0 0] 55 (0, 0))) := Lib.hid ((g.block _ (by have := Hz0.out; omega)).trans Hr0.out)
    have Ha1 : Hid (W1.heap[w.heap.size]? = some (.cells #[.slice A1 xs.length c1, .slice A2 ms.length c2] 55 (0, 0))) := Lib.hid ((g.block _ (by have := Hz0.out; omega)).trans Ha0.out)
    have Hb1 : Hid (W1.heap[w.heap.size + 1]? = some (.cells #[.slice A3 ys.length c3, .slice A4 ns.length c4] 55 (0, 0))) := Lib.hid ((g.block _ (by have := Hz0.out; omega)).trans Hb0.out)
    clear g
    go_wp2_with (refine wpList_store_row rfl 55 (.tmp 4) (.tmp 27) rfl (w.heap.size + 2) #[.slice none 0 0, .slice none 0 0] rfl rfl 55 _ Hr1.out Hi9.out rfl H19.out ?_)
    refine bodyPost_ret (v := .tuple #[.agg #[.slice none 0 0, .slice none 0 0], .bool false]) ?_ ?_ ?_
    · exact results_cell_row2 rfl _ _ (w.heap.size + 2) 55 _ (0, 0) _ _ rfl rfl (setRow_heap _ _ _ _ _ _ Hr1.out) Try.underlying55 rfl (by kernel_rfl)
    · rfl
    · rw [HL.out, HM.out, Hf.out]; exact ans_nil _ (below_setRow HB1.out (by omega) _)
  have Ho1 := Lib.hid ha; clear ha
  cases hb : boxOk ys ns
  · have Ho := Lib.hid hb
    have Hf : Hid (r = false) := Lib.hid (by rw [← Hr.out]; exact cutOk_b hb)
    clear hb hno
    go_enter Try.func51, Try.ntmps51
    go_wp2_with fail
    generalize (((w.alloc (.cells #[.slice A1 xs.length c1, .slice A2 ms.length c2] 55)).alloc (.cells #[.slice A3 ys.length c3, .slice A4 ns.length c4] 55)).alloc (.cells #[.slice none 0 0, .slice none 0 0] 55)) = W0 at *
    refine (l07Box_is Ho1.out (H1.out.at hB HB0.out) (H2.out.at hB HB0.out) (Nat.le_refl _)).mono ?_
    rintro e W1 ⟨rfl, g⟩
    have HB1 : Hid (Below w.heap.size w W1) := Lib.hid (HB0.out.trans (g.mono HB0.out.size))
    have Hz1 : Hid (w.heap.size + 3 ≤ W1.heap.size) := Lib.hid (by have := Hz0.out; have := g.size; omega)
    have Hr1 : Hid (W1.heap[w.heap.size + 2]? = some (.cells #[.slice none 0 0, .slice none 0 0] 55 (0, 0))) := Lib.hid ((g.block _ (by have := Hz0.out; omega)).trans Hr0.out)
    have Ha1 : Hid (W1.heap[w.heap.size]? = some (.cells #[.slice A1 xs.length c1, .slice A2 ms.length c2] 55 (0, 0))) := Lib.hid ((g.block _ (by have := Hz0.out; omega)).trans Ha0.out)
    have Hb1 : Hid (W1.heap[w.heap.size + 1]? = some (.cells #[.slice A3 ys.length c3, .slice A4 ns.length c4] 55 (0, 0))) := Lib.hid ((g.block _ (by have := Hz0.out; omega)).trans Hb0.out)
    clear g
    have q0 : W1.cell? ⟨w.heap.size, 0, none⟩ = some (.slice A1 xs.length c1) := by rw [cell_of_row _ _ _ _ _ _ Ha1.out]; rfl
    have q1 : W1.cell? ⟨w.heap.size, 1, none⟩ = some (.slice A2 ms.length c2) := by rw [cell_of_row _ _ _ _ _ _ Ha1.out]; rfl
    have q2 : W1.cell? ⟨w.heap.size + 1, 0, none⟩ = some (.slice A3 ys.length c3) := by rw [cell_of_row _ _ _ _ _ _ Hb1.out]; rfl
    have q3 : W1.cell? ⟨w.heap.size + 1, 1, none⟩ = some (.slice A4 ns.length c4) := by rw [cell_of_row _ _ _ _ _ _ Hb1.out]; rfl
    go_wp2_with fail
    clear q0 q1 q2 q3
    refine (l07Box_is Ho.out (H3.out.at hB HB1.out) (H4.out.at hB HB1.out) (Nat.le_refl _)).mono ?_
    rintro e W2 ⟨rfl, g⟩
    have HB2 : Hid (Below w.heap.size w W2) := Lib.hid (HB1.out.trans (g.mono HB1.out.size))
    have Hz2 : Hid (w.heap.size + 3 ≤ W2.heap.size) := Lib.hid (by have := Hz1.out; have := g.size; omega)
    have Hr2 : Hid (W2.heap[w.heap.size + 2]? = some (.cells #[.slice none 0 0, .slice none 0 0] 55 (0, 0))) := Lib.hid ((g.block _ (by have := Hz1.out; omega)).trans Hr1.out)
    have Ha2 : Hid (W2.heap[w.heap.size]? = some (.cells #[.slice A1 xs.length c1, .slice A2 ms.length c2] 55 (0, 0))) := Lib.hid ((g.block _ (by have := Hz1.out; omega)).trans Ha1.out)
    have Hb2 : Hid (W2.heap[w.heap.size + 1]? = some (.cells #[.slice A3 ys.length c3, .slice A4 ns.length c4] 55 (0, 0))) := Lib.hid ((g.block _ (by have := Hz1.out; omega)).trans Hb1.out)
    clear g
    go_wp2_with (refine wpList_store_row rfl 55 (.tmp 4) (.tmp 27) rfl (w.heap.size + 2) #[.slice none 0 0, .slice none 0 0] rfl rfl 55 _ Hr2.out Hi9.out rfl H19.out ?_)
    refine bodyPost_ret (v := .tuple #[.agg #[.slice none 0 0, .slice none 0 0], .bool false]) ?_ ?_ ?_
    · exact results_cell_row2 rfl _ _ (w.heap.size + 2) 55 _ (0, 0) _ _ rfl rfl (setRow_heap _ _ _ _ _ _ Hr2.out) Try.underlying55 rfl (by kernel_rfl)
    · rfl
    · rw [HL.out, HM.out, Hf.out]; exact ans_nil _ (below_setRow HB2.out (by omega) _)
  have Ho2 := Lib.hid hb; clear hb
  by_cases hn : xs.length = ys.length
  rotate_left
  · clear hno
    have Hf : Hid (r = false) := Lib.hid (by rw [← Hr.out]; exact cutOk_n hn)
    have hn' : ((xs.length : Int) == (ys.length : Int)) = false := by simp; omega
    have hn2 : ((xs.length : Int) != (ys.length : Int)) = true := by simp; omega
    have hn3 : ¬ ((xs.length : Int) = (ys.length : Int)) := by omega
    go_enter Try.func51, Try.ntmps51
    go_wp2_with fail
    generalize (((w.alloc (.cells #[.slice A1 xs.length c1, .slice A2 ms.length c2] 55)).alloc (.cells #[.slice A3 ys.length c3, .slice A4 ns.length c4] 55)).alloc (.cells #[.slice none 0 0, .slice none 0 0] 55)) = W0 at *
    refine (l07Box_is Ho1.out (H1.out.at hB HB0.out) (H2.out.at hB HB0.out) (Nat.le_refl _)).mono ?_
    rintro e W1 ⟨rfl, g⟩
    have HB1 : Hid (Below w.heap.size w W1) := Lib.hid (HB0.out.trans (g.mono HB0.out.size))
    have Hz1 : Hid (w.heap.size + 3 ≤ W1.heap.size) := Lib.hid (by have := Hz0.out; have := g.size; omega)
    have Hr1 : Hid (W1.heap[w.heap.size + 2]? = some (.cells #[.slice none 0 0, .slice none 0 0] 55 (0, 0))) := Lib.hid ((g.block _ (by have := Hz0.out; omega)).trans Hr0.out)
    have Ha1 : Hid (W1.heap[w.heap.size]? = some (.cells #[.slice A1 xs.length c1, .slice A2 ms.length c2] 55 (0, 0))) := Lib.hid ((g.block _ (by have := Hz0.out; omega)).trans Ha0.out)
    have Hb1 : Hid (W1.heap[w.heap.size + 1]? = some (.cells #[.slice A3 ys.length c3, .slice A4 ns.length c4] 55 (0, 0))) := Lib.hid ((g.block _ (by have := Hz0.out; omega)).trans Hb0.out)
    clear g
    have q0 : W1.cell? ⟨w.heap.size, 0, none⟩ = some (.slice A1 xs.length c1) := by rw [cell_of_row _ _ _ _ _ _ Ha1.out]; rfl
    have q1 : W1.cell? ⟨w.heap.size, 1, none⟩ = some (.slice A2 ms.length c2) := by rw [cell_of_row _ _ _ _ _ _ Ha1.out]; rfl
    have q2 : W1.cell? ⟨w.heap.size + 1, 0, none⟩ = some (.slice A3 ys.length c3) := by rw [cell_of_row _ _ _ _ _ _ Hb1.out]; rfl
    have q3 : W1.cell? ⟨w.heap.size + 1, 1, none⟩ = some (.slice A4 ns.length c4) := by rw [cell_of_row _ _ _ _ _ _ Hb1.out]; rfl
    go_wp2_with fail
    clear q0 q1 q2 q3
    refine (l07Box_is Ho2.out (H3.out.at hB HB1.out) (H4.out.at hB HB1.out) (Nat.le_refl _)).mono ?_
    rintro e W2 ⟨rfl, g⟩
    have HB2 : Hid (Below w.heap.size w W2) := Lib.hid (HB1.out.trans (g.mono HB1.out.size))
    have Hz2 : Hid (w.heap.size + 3 ≤ W2.heap.size) := Lib.hid (by have := Hz1.out; have := g.size; omega)
    have Hr2 : Hid (W2.heap[w.heap.size + 2]? = some (.cells #[.slice none 0 0, .slice none 0 0] 55 (0, 0))) := Lib.hid ((g.block _ (by have := Hz1.out; omega)).trans Hr1.out)
    have Ha2 : Hid (W2.heap[w.heap.size]? = some (.cells #[.slice A1 xs.length c1, .slice A2 ms.length c2] 55 (0, 0))) := Lib.hid ((g.block _ (by have := Hz1.out; omega)).trans Ha1.out)
    have Hb2 : Hid (W2.heap[w.heap.size + 1]? = some (.cells #[.slice A3 ys.length c3, .slice A4 ns.length c4] 55 (0, 0))) := Lib.hid ((g.block _ (by have := Hz1.out; omega)).trans Hb1.out)
    clear g
    have q0 : W2.cell? ⟨w.heap.size, 0, none⟩ = some (.slice A1 xs.length c1) := by rw [cell_of_row _ _ _ _ _ _ Ha2.out]; rfl
    have q1 : W2.cell? ⟨w.heap.size, 1, none⟩ = some (.slice A2 ms.length c2) := by rw [cell_of_row _ _ _ _ _ _ Ha2.out]; rfl
    have q2 : W2.cell? ⟨w.heap.size + 1, 0, none⟩ = some (.slice A3 ys.length c3) := by rw [cell_of_row _ _ _ _ _ _ Hb2.out]; rfl
    have q3 : W2.cell? ⟨w.heap.size + 1, 1, none⟩ = some (.slice A4 ns.length c4) := by rw [cell_of_row _ _ _ _ _ _ Hb2.out]; rfl
    go_wp2_with (refine wpList_store_row rfl 55 (.tmp 4) (.tmp 27) rfl (w.heap.size + 2) #[.slice none 0 0, .slice none 0 0] rfl rfl 55 _ Hr2.out Hi9.out rfl H19.out ?_)
    refine bodyPost_ret (v := .tuple #[.agg #[.slice none 0 0, .slice none 0 0], .bool false]) ?_ ?_ ?_
    · exact results_cell_row2 rfl _ _ (w.heap.size + 2) 55 _ (0, 0) _ _ rfl rfl (setRow_heap _ _ _ _ _ _ Hr2.out) Try.underlying55 rfl (by kernel_rfl)
    · rfl
    · rw [HL.out, HM.out, Hf.out]; exact ans_nil _ (below_setRow HB2.out (by omega) _)
  · exact absurd hno (by rw [Ho1.out, Ho2.out]; simp [hn])
end Go.Proofs.Ytaokifppaagalaa
