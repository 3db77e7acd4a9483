/- The current superblock of a disk: the model. No statement is proved here. -/
import Derived.Test.YtlickjmdlooapaaDcS
import Derived.Test.YtlickjmdlooapaaDkR
import Derived.Test.YtlickjmdlooapaaSup
import Derived.Laws.ResultCell
namespace Go.Proofs.Ytlickjmdlooapaa
open Go.RowKit
set_option linter.unusedVariables false
theorem rdB_64 {ss : List ByteArray} {ps : List Pt} {fz : Int} {k : Nat} (h : dskOk ss ps fz = true) (hk : k < ss.length) : (rdB ss ps k).size = 64 := by
  have h' := dskOk_iff.1 h
  have h1 : ∀ i (hi : i < ss.length), ss[i].size = 64 := fun i hi => by
    have := allTo_at h'.2.2.2.2.2.1 hi
    rw [bkAt_at ss i hi] at this
    simpa using this
  have h2 : ∀ i (hi : i < ps.length), ps[i].2.size = 64 := fun i hi => by
    have := allTo_at h'.2.2.2.2.2.2 hi
    rw [pdAt_at _ ps i hi, Bool.and_eq_true] at this
    simpa using this.2
  have h3 : ∀ i, i ≤ ps.length → (rdI ss ps k i).size = 64 := fun i => by
    induction i with
    | zero => intro _; rw [rdI_zero hk]; exact h1 k hk
    | succ i ih =>
      intro hi
      rw [rdI_succ (show i < ps.length by omega)]
      split
      · exact h2 i (by omega)
      · exact ih (by omega)
  exact h3 _ (Nat.le_refl _)
/-- The superblock in block k. -/
def slY (ss : List ByteArray) (ps : List Pt) (k : Nat) : Bool := dcY (rdB ss ps k) && (decide (gV (rdB ss ps k) 5 2 = (ss.length : Int)) && decide (gV (rdB ss ps k) 17 8 % 2 = (k : Int)))
def slT (ss : List ByteArray) (ps : List Pt) (k : Nat) : Int := gV (rdB ss ps k) 17 8
def slA (ss : List ByteArray) (ps : List Pt) (k : Nat) : Array Value := if slY ss ps k then #[.int .i64 (gV (rdB ss ps k) 5 2), .int .i64 (gV (rdB ss ps k) 7 2), .int .i64 (gV (rdB ss ps k) 9 8), .int .i64 (gV (rdB ss ps k) 17 8)] else #[.int .i64 0, .int .i64 0, .int .i64 0, .int .i64 0]
theorem slY_t {ss : List ByteArray} {ps : List Pt} {k : Nat} (h : slY ss ps k = true) : slT ss ps k % 2 = (k : Int) ∧ slA ss ps k = #[.int .i64 (gV (rdB ss ps k) 5 2), .int .i64 (gV (rdB ss ps k) 7 2), .int .i64 (gV (rdB ss ps k) 9 8), .int .i64 (slT ss ps k)] := by
  refine ⟨?_, by unfold slA; rw [h]; rfl⟩
  simp only [slY, Bool.and_eq_true, decide_eq_true_eq] at h
  exact h.2.2
theorem slA_n {ss : List ByteArray} {ps : List Pt} {k : Nat} (h : slY ss ps k = false) : slA ss ps k = #[.int .i64 0, .int .i64 0, .int .i64 0, .int .i64 0] := by unfold slA; rw [h]; rfl
/-- Which of the two counts: 2 for none. -/
def chW (ss : List ByteArray) (ps : List Pt) : Nat := if slY ss ps 0 then (if slY ss ps 1 then (if slT ss ps 1 < slT ss ps 0 then 0 else 1) else 0) else if slY ss ps 1 then 1 else 2
def chA (ss : List ByteArray) (ps : List Pt) : Array Value := if chW ss ps = 0 then slA ss ps 0 else if chW ss ps = 1 then slA ss ps 1 else #[.int .i64 0, .int .i64 0, .int .i64 0, .int .i64 0]
def chC (ss : List ByteArray) (ps : List Pt) : Int := if chW ss ps = 2 then 10 else 0
def csA (ss : List ByteArray) (ps : List Pt) (fz : Int) : Array Value := if dskOk ss ps fz then chA ss ps else #[.int .i64 0, .int .i64 0, .int .i64 0, .int .i64 0]
def csC (ss : List ByteArray) (ps : List Pt) (fz : Int) : Int := if dskOk ss ps fz then chC ss ps else 1
theorem dcA_y {s : ByteArray} (h : dcY s = true) : dcA s = #[.int .i64 (gV s 5 2), .int .i64 (gV s 7 2), .int .i64 (gV s 9 8), .int .i64 (gV s 17 8)] := by unfold dcA; rw [h]; rfl
theorem dcA_n {s : ByteArray} (h : dcY s = false) : dcA s = #[.int .i64 0, .int .i64 0, .int .i64 0, .int .i64 0] := by unfold dcA; rw [h]; rfl
set_option maxHeartbeats 2000000 in
set_option maxRecDepth 100000 in
theorem l10Slot_any {B g : Nat} {w : World} {v1 v2 : Value} {ss : List ByteArray} {ps : List Pt} {fz : Int} {off : Bool} {k : Nat} (hk2 : k < 2) (hk : k < ss.length) (hz : (rdB ss ps k).size = 64) (hd : DB w g v1 v2 fz off) (h1 : RiT B w v1 ss) (h2 : RiU B w v2 ps) (hB : B ≤ w.heap.size) :
    Calls Try.prog 191 #[.pointer (some ⟨g, 0, none⟩), .int .i64 (k : Int)] w (GivesB (.tuple #[.agg (slA ss ps k), .bool (slY ss ps k)]) w) := by
  have H1 := Lib.hid h1; obtain ⟨A1, c1, rfl, l1, m1, -⟩ := h1
  have H2 := Lib.hid h2; obtain ⟨A2, c2, rfl, -, -, -⟩ := h2
  unfold maxLen at m1
  have Hb0 : Hid (Below w.heap.size w (w.alloc (.cells #[.int .i64 0, .int .i64 0, .int .i64 0, .int .i64 0] 39))) := Lib.hid ((Below.refl _ w).alloc (Nat.le_refl _) _)
  have R0 : Hid ((w.alloc (.cells #[.int .i64 0, .int .i64 0, .int .i64 0, .int .i64 0] 39)).heap[w.heap.size]? = some (.cells #[.int .i64 0, .int .i64 0, .int .i64 0, .int .i64 0] 39 (0, 0))) := Lib.hid (heap_alloc_new w _)
  have Lt0 : Hid (w.heap.size < (w.alloc (.cells #[.int .i64 0, .int .i64 0, .int .i64 0, .int .i64 0] 39)).heap.size) := Lib.hid (by simp)
  have HD0 := Lib.hid (hd.keep Hb0.out)
  have hgl := hd.lt
  clear hd
  have CR := Lib.hid (l09Read_any hk HD0.out (H1.out.at hB Hb0.out) (H2.out.at hB Hb0.out))
  have HY : Hid (slY ss ps k = (dcY (rdB ss ps k) && (decide (gV (rdB ss ps k) 5 2 = (ss.length : Int)) && decide (gV (rdB ss ps k) 17 8 % 2 = (k : Int))))) := Lib.hid rfl
  have HA : Hid (slA ss ps k = if slY ss ps k then #[.int .i64 (gV (rdB ss ps k) 5 2), .int .i64 (gV (rdB ss ps k) 7 2), .int .i64 (gV (rdB ss ps k) 9 8), .int .i64 (gV (rdB ss ps k) 17 8)] else #[.int .i64 0, .int .i64 0, .int .i64 0, .int .i64 0]) := Lib.hid rfl
  generalize slA ss ps k = RA at *
  generalize slY ss ps k = RY at *
  generalize rdB ss ps k = s at *
  have CD := Lib.hid (fun W => specDecodeSuper_any s (by omega) W)
  have I3 := Lib.hid (gV_in s 17 8)
  cases hy : dcY s
  · have Hf : Hid (RA = #[.int .i64 0, .int .i64 0, .int .i64 0, .int .i64 0] ∧ RY = false) := Lib.hid (by
        have h : RY = false := by rw [HY.out, hy]; rfl
        exact ⟨by rw [HA.out, h]; rfl, h⟩)
    rw [dcA_n hy, hy] at CD
    clear hy
    go_enter Try.func191, Try.ntmps191
    go_wp2_with ((go_at_call 186; refine CR.out.mono ?_; rintro e w' ⟨rfl, rfl⟩))
    generalize (w.alloc (.cells #[.int .i64 0, .int .i64 0, .int .i64 0, .int .i64 0] 39)) = w0 at *
    refine (CD.out w0).mono ?_
    rintro e w1 ⟨rfl, ga⟩
    have Ga := Lib.hid ga; clear ga
    have G2 : Hid (∀ n, Below w0.heap.size w0 ((w1.alloc (.cells #[.int .i64 0, .int .i64 0, .int .i64 0, .int .i64 0] 39)).drewN n)) := Lib.hid (fun n => below_draws (Ga.out.alloc Ga.out.size _) n)
    have R2 := Lib.hid (fun n => ((G2.out n).block _ Lt0.out).trans R0.out)
    have B2 := Lib.hid (fun n => Hb0.out.trans ((G2.out n).mono Hb0.out.size))
    go_wp2
    go_quiet (fail)
    go_wp2_with (refine wpList_store_row rfl 39 (.tmp 4) (.tmp 34) rfl w.heap.size #[.int .i64 0, .int .i64 0, .int .i64 0, .int .i64 0] rfl rfl 39 _ (R2.out _) (infoS4 _ _ _ _) rfl oneS4 ?_)
    refine bodyPost_ret (v := .tuple #[.agg #[.int .i64 0, .int .i64 0, .int .i64 0, .int .i64 0], .bool false]) ?_ rfl ?_
    · exact results_cell_row2 rfl _ _ w.heap.size 39 _ (0, 0) _ _ rfl rfl (setRow_heap _ _ _ _ _ _ (R2.out _)) Try.underlying39 rfl (by kernel_rfl)
    · exact ⟨by rw [Hf.out.1, Hf.out.2], below_setRow (B2.out _) (Nat.le_refl _) _⟩
  have HA2 : Hid (RY = (decide (gV s 5 2 = (ss.length : Int)) && decide (gV s 17 8 % 2 = (k : Int)))) := Lib.hid (by rw [HY.out, hy]; rfl)
  rw [dcA_y hy, hy] at CD
  clear hy HY
  generalize gV s 5 2 = x0 at *
  generalize gV s 7 2 = x1 at *
  generalize gV s 9 8 = x2 at *
  generalize gV s 17 8 = x3 at *
  have hx3 := I3.out
  have HD2 := Lib.hid (fun (W : World) (hW : Below (w.alloc (.cells #[.int .i64 0, .int .i64 0, .int .i64 0, .int .i64 0] 39)).heap.size (w.alloc (.cells #[.int .i64 0, .int .i64 0, .int .i64 0, .int .i64 0] 39)) W) => (HD0.out.keep hW).c0)
  by_cases e0 : x0 = (ss.length : Int)
  rotate_left
  · have Hf : Hid (RA = #[.int .i64 0, .int .i64 0, .int .i64 0, .int .i64 0] ∧ RY = false) := Lib.hid (by
        have h : RY = false := by rw [HA2.out, decide_eq_false e0]; rfl
        exact ⟨by rw [HA.out, h]; rfl, h⟩)
    have n0 : (x0 != (ss.length : Int)) = true := by simpa using e0
    clear HA HA2
    go_enter Try.func191, Try.ntmps191
    go_wp2_with ((go_at_call 186; refine CR.out.mono ?_; rintro e w' ⟨rfl, rfl⟩))
    generalize (w.alloc (.cells #[.int .i64 0, .int .i64 0, .int .i64 0, .int .i64 0] 39)) = w0 at *
    refine (CD.out w0).mono ?_
    rintro e w1 ⟨rfl, ga⟩
    have Ga := Lib.hid ga; clear ga
    have G2 : Hid (∀ n, Below w0.heap.size w0 ((w1.alloc (.cells #[.int .i64 x0, .int .i64 x1, .int .i64 x2, .int .i64 x3] 39)).drewN n)) := Lib.hid (fun n => below_draws (Ga.out.alloc Ga.out.size _) n)
    have R2 := Lib.hid (fun n => ((G2.out n).block _ Lt0.out).trans R0.out)
    have B2 := Lib.hid (fun n => Hb0.out.trans ((G2.out n).mono Hb0.out.size))
    have qd := HD2.out _ (Ga.out.alloc Ga.out.size (.cells #[.int .i64 x0, .int .i64 x1, .int .i64 x2, .int .i64 x3] 39))
    go_wp2
    go_quiet (fail)
    go_wp2_with (refine wpList_store_row rfl 39 (.tmp 4) (.tmp 34) rfl w.heap.size #[.int .i64 0, .int .i64 0, .int .i64 0, .int .i64 0] rfl rfl 39 _ (R2.out _) (infoS4 _ _ _ _) rfl oneS4 ?_)
    refine bodyPost_ret (v := .tuple #[.agg #[.int .i64 0, .int .i64 0, .int .i64 0, .int .i64 0], .bool false]) ?_ rfl ?_
    · exact results_cell_row2 rfl _ _ w.heap.size 39 _ (0, 0) _ _ rfl rfl (setRow_heap _ _ _ _ _ _ (R2.out _)) Try.underlying39 rfl (by kernel_rfl)
    · exact ⟨by rw [Hf.out.1, Hf.out.2], below_setRow (B2.out _) (Nat.le_refl _) _⟩
  have n0 : (x0 != (ss.length : Int)) = false := by simpa using e0
  by_cases e3 : x3 % 2 = (k : Int)
  rotate_left
  · have Hf : Hid (RA = #[.int .i64 0, .int .i64 0, .int .i64 0, .int .i64 0] ∧ RY = false) := Lib.hid (by
        have h : RY = false := by rw [HA2.out, decide_eq_false e3, Bool.and_false]
        exact ⟨by rw [HA.out, h]; rfl, h⟩)
    have n3 : (x3 % 2 != (k : Int)) = true := by simpa using e3
    subst e0
    clear HA HA2
    go_enter Try.func191, Try.ntmps191
    go_wp2_with ((go_at_call 186; refine CR.out.mono ?_; rintro e w' ⟨rfl, rfl⟩))
    generalize (w.alloc (.cells #[.int .i64 0, .int .i64 0, .int .i64 0, .int .i64 0] 39)) = w0 at *
    refine (CD.out w0).mono ?_
    rintro e w1 ⟨rfl, ga⟩
    have Ga := Lib.hid ga; clear ga
    have G2 : Hid (∀ n, Below w0.heap.size w0 ((w1.alloc (.cells #[.int .i64 (ss.length : Int), .int .i64 x1, .int .i64 x2, .int .i64 x3] 39)).drewN n)) := Lib.hid (fun n => below_draws (Ga.out.alloc Ga.out.size _) n)
    have R2 := Lib.hid (fun n => ((G2.out n).block _ Lt0.out).trans R0.out)
    have B2 := Lib.hid (fun n => Hb0.out.trans ((G2.out n).mono Hb0.out.size))
    have qd := HD2.out _ (Ga.out.alloc Ga.out.size (.cells #[.int .i64 (ss.length : Int), .int .i64 x1, .int .i64 x2, .int .i64 x3] 39))
    go_wp2
    go_quiet (fail)
    go_wp2_with (refine wpList_store_row rfl 39 (.tmp 4) (.tmp 34) rfl w.heap.size #[.int .i64 0, .int .i64 0, .int .i64 0, .int .i64 0] rfl rfl 39 _ (R2.out _) (infoS4 _ _ _ _) rfl oneS4 ?_)
    refine bodyPost_ret (v := .tuple #[.agg #[.int .i64 0, .int .i64 0, .int .i64 0, .int .i64 0], .bool false]) ?_ rfl ?_
    · exact results_cell_row2 rfl _ _ w.heap.size 39 _ (0, 0) _ _ rfl rfl (setRow_heap _ _ _ _ _ _ (R2.out _)) Try.underlying39 rfl (by kernel_rfl)
    · exact ⟨by rw [Hf.out.1, Hf.out.2], below_setRow (B2.out _) (Nat.le_refl _) _⟩
  have Hf : Hid (RA = #[.int .i64 x0, .int .i64 x1, .int .i64 x2, .int .i64 x3] ∧ RY = true) := Lib.hid (by
        have h : RY = true := by rw [HA2.out, decide_eq_true e0, decide_eq_true e3]; rfl
        exact ⟨by rw [HA.out, h]; rfl, h⟩)
  have n3 : (x3 % 2 != (k : Int)) = false := by simpa using e3
  subst e0
  clear HA HA2
  go_enter Try.func191, Try.ntmps191
  go_wp2_with ((go_at_call 186; refine CR.out.mono ?_; rintro e w' ⟨rfl, rfl⟩))
  generalize (w.alloc (.cells #[.int .i64 0, .int .i64 0, .int .i64 0, .int .i64 0] 39)) = w0 at *
  refine (CD.out w0).mono ?_
  rintro e w1 ⟨rfl, ga⟩
  have Ga := Lib.hid ga; clear ga
  have G2 : Hid (∀ n, Below w0.heap.size w0 ((w1.alloc (.cells #[.int .i64 (ss.length : Int), .int .i64 x1, .int .i64 x2, .int .i64 x3] 39)).drewN n)) := Lib.hid (fun n => below_draws (Ga.out.alloc Ga.out.size _) n)
  have R2 := Lib.hid (fun n => ((G2.out n).block _ Lt0.out).trans R0.out)
  have B2 := Lib.hid (fun n => Hb0.out.trans ((G2.out n).mono Hb0.out.size))
  have qd := HD2.out _ (Ga.out.alloc Ga.out.size (.cells #[.int .i64 (ss.length : Int), .int .i64 x1, .int .i64 x2, .int .i64 x3] 39))
  go_wp2
  go_quiet (fail)
  go_wp2_with (refine wpList_store_row rfl 39 (.tmp 4) (.tmp 35) rfl w.heap.size #[.int .i64 (ss.length : Int), .int .i64 x1, .int .i64 x2, .int .i64 x3] rfl rfl 39 _ (R2.out _) (infoS4 _ _ _ _) rfl oneS4 ?_)
  refine bodyPost_ret (v := .tuple #[.agg #[.int .i64 (ss.length : Int), .int .i64 x1, .int .i64 x2, .int .i64 x3], .bool true]) ?_ rfl ?_
  · exact results_cell_row2 rfl _ _ w.heap.size 39 _ (0, 0) _ _ rfl rfl (setRow_heap _ _ _ _ _ _ (R2.out _)) Try.underlying39 rfl (by kernel_rfl)
  · exact ⟨by rw [Hf.out.1, Hf.out.2], below_setRow (B2.out _) (Nat.le_refl _) _⟩
end Go.Proofs.Ytlickjmdlooapaa
