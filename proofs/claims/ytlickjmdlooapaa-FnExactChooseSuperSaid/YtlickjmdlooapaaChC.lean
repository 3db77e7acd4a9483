/- The current superblock of a disk: the model's choice. No statement is proved here. -/
import Derived.Test.YtlickjmdlooapaaChS
namespace Go.Proofs.Ytlickjmdlooapaa
open Go.RowKit
set_option linter.unusedVariables false
theorem sl_cases (ss : List ByteArray) (ps : List Pt) (k : Nat) : (slY ss ps k = false ∧ slA ss ps k = #[.int .i64 0, .int .i64 0, .int .i64 0, .int .i64 0]) ∨ (slY ss ps k = true ∧ slT ss ps k % 2 = (k : Int) ∧ ∃ x0 x1 x2 : Int, slA ss ps k = #[.int .i64 x0, .int .i64 x1, .int .i64 x2, .int .i64 (slT ss ps k)]) := by
  cases h : slY ss ps k
  · exact .inl ⟨rfl, slA_n h⟩
  · exact .inr ⟨rfl, (slY_t h).1, _, _, _, (slY_t h).2⟩
theorem slT_in (ss : List ByteArray) (ps : List Pt) (k : Nat) : 0 ≤ slT ss ps k ∧ slT ss ps k < 9223372036854775808 := gV_in _ _ _
set_option maxHeartbeats 4000000 in
set_option maxRecDepth 100000 in
theorem l10Choose_any {B g : Nat} {w : World} {v1 v2 : Value} {ss : List ByteArray} {ps : List Pt} {fz : Int} {off : Bool} (hok : dskOk ss ps fz = true) (hd : DB w g v1 v2 fz off) (h1 : RiT B w v1 ss) (h2 : RiU B w v2 ps) (hB : B ≤ w.heap.size) :
    Calls Try.prog 130 #[.pointer (some ⟨g, 0, none⟩)] w (GivesB (.tuple #[.agg (chA ss ps), .int .i64 (chC ss ps)]) w) := by
  have hn := (dskOk_iff.1 hok).1
  have z0 := rdB_64 (k := 0) hok (by omega)
  have z1 := rdB_64 (k := 1) hok (by omega)
  have Hb0 : Hid (Below w.heap.size w (w.alloc (.cells #[.int .i64 0, .int .i64 0, .int .i64 0, .int .i64 0] 39))) := Lib.hid ((Below.refl _ w).alloc (Nat.le_refl _) _)
  have R0 : Hid ((w.alloc (.cells #[.int .i64 0, .int .i64 0, .int .i64 0, .int .i64 0] 39)).heap[w.heap.size]? = some (.cells #[.int .i64 0, .int .i64 0, .int .i64 0, .int .i64 0] 39 (0, 0))) := Lib.hid (heap_alloc_new w _)
  have Lt0 : Hid (w.heap.size < (w.alloc (.cells #[.int .i64 0, .int .i64 0, .int .i64 0, .int .i64 0] 39)).heap.size) := Lib.hid (by simp)
  have CS0 : Hid (∀ W, Below (w.alloc (.cells #[.int .i64 0, .int .i64 0, .int .i64 0, .int .i64 0] 39)).heap.size (w.alloc (.cells #[.int .i64 0, .int .i64 0, .int .i64 0, .int .i64 0] 39)) W → _) := Lib.hid (fun W hW => l10Slot_any (w := W) (k := 0) (g := g) (fz := fz) (off := off) (by omega) (by omega) z0 ((hd.keep Hb0.out).keep hW) (h1.at hB (Hb0.out.trans (hW.mono Hb0.out.size))) (h2.at hB (Hb0.out.trans (hW.mono Hb0.out.size))) (Nat.le_refl _))
  have CS1 : Hid (∀ W, Below (w.alloc (.cells #[.int .i64 0, .int .i64 0, .int .i64 0, .int .i64 0] 39)).heap.size (w.alloc (.cells #[.int .i64 0, .int .i64 0, .int .i64 0, .int .i64 0] 39)) W → _) := Lib.hid (fun W hW => l10Slot_any (w := W) (k := 1) (g := g) (fz := fz) (off := off) (by omega) (by omega) z1 ((hd.keep Hb0.out).keep hW) (h1.at hB (Hb0.out.trans (hW.mono Hb0.out.size))) (h2.at hB (Hb0.out.trans (hW.mono Hb0.out.size))) (Nat.le_refl _))
  have HW : Hid (chW ss ps = if slY ss ps 0 then (if slY ss ps 1 then (if slT ss ps 1 < slT ss ps 0 then 0 else 1) else 0) else if slY ss ps 1 then 1 else 2) := Lib.hid rfl
  have HA : Hid (chA ss ps = if chW ss ps = 0 then slA ss ps 0 else if chW ss ps = 1 then slA ss ps 1 else #[.int .i64 0, .int .i64 0, .int .i64 0, .int .i64 0]) := Lib.hid rfl
  have HC : Hid (chC ss ps = if chW ss ps = 2 then 10 else 0) := Lib.hid rfl
  have Q0 := Lib.hid (sl_cases ss ps 0); have Q1 := Lib.hid (sl_cases ss ps 1)
  have I0 := Lib.hid (slT_in ss ps 0); have I1 := Lib.hid (slT_in ss ps 1)
  clear hn z0 z1 hd h1 h2
  generalize chA ss ps = RA at *
  generalize chC ss ps = RC at *
  generalize chW ss ps = RW at *
  generalize slY ss ps 0 = y0 at *
  generalize slY ss ps 1 = y1 at *
  generalize slA ss ps 0 = a0 at *
  generalize slA ss ps 1 = a1 at *
  generalize slT ss ps 0 = t0 at *
  generalize slT ss ps 1 = t1 at *
  have CS0' : Hid (∀ W, Below (w.alloc (.cells #[.int .i64 0, .int .i64 0, .int .i64 0, .int .i64 0] 39)).heap.size (w.alloc (.cells #[.int .i64 0, .int .i64 0, .int .i64 0, .int .i64 0] 39)) W → Calls Try.prog 191 #[.pointer (some ⟨g, 0, none⟩), .int .i64 0] W (GivesB (.tuple #[.agg a0, .bool y0]) W)) := CS0
  have CS1' : Hid (∀ W, Below (w.alloc (.cells #[.int .i64 0, .int .i64 0, .int .i64 0, .int .i64 0] 39)).heap.size (w.alloc (.cells #[.int .i64 0, .int .i64 0, .int .i64 0, .int .i64 0] 39)) W → Calls Try.prog 191 #[.pointer (some ⟨g, 0, none⟩), .int .i64 1] W (GivesB (.tuple #[.agg a1, .bool y1]) W)) := CS1
  clear CS0 CS1
  have q0 := Q0.out; have q1 := Q1.out; clear Q0 Q1
  have i0 := I0.out; have i1 := I1.out
  rcases q0 with ⟨rfl, rfl⟩ | ⟨rfl, e0, x0, x1, x2, rfl⟩
  · rcases q1 with ⟨rfl, rfl⟩ | ⟨rfl, e1, z0, z1, z2, rfl⟩
    · skip
      have Hf : Hid (RA = #[.int .i64 0, .int .i64 0, .int .i64 0, .int .i64 0] ∧ RC = 10) := Lib.hid (by
        have h : RW = 2 := by rw [HW.out]; simp
        exact ⟨by rw [HA.out, h]; rfl, by rw [HC.out, h]; rfl⟩)
      clear HA HC HW
      go_enter Try.func130, Try.ntmps130
      go_wp2_with fail
      generalize (w.alloc (.cells #[.int .i64 0, .int .i64 0, .int .i64 0, .int .i64 0] 39)) = w0 at *
      refine (CS0'.out w0 (Below.refl _ _)).mono ?_
      rintro e w1 ⟨rfl, g1⟩
      have G2 : Hid (Below w0.heap.size w0 (w1.alloc (.cells #[.int .i64 0, .int .i64 0, .int .i64 0, .int .i64 0] 39))) := Lib.hid (g1.alloc g1.size _)
      have S2 : Hid ((w1.alloc (.cells #[.int .i64 0, .int .i64 0, .int .i64 0, .int .i64 0] 39)).heap[w1.heap.size]? = some (.cells #[.int .i64 0, .int .i64 0, .int .i64 0, .int .i64 0] 39 (0, 0))) := Lib.hid (heap_alloc_new w1 _)
      have L2 : Hid (w1.heap.size < (w1.alloc (.cells #[.int .i64 0, .int .i64 0, .int .i64 0, .int .i64 0] 39)).heap.size) := Lib.hid (by simp)
      clear g1
      go_wp2_with fail
      generalize (w1.alloc (.cells #[.int .i64 0, .int .i64 0, .int .i64 0, .int .i64 0] 39)) = w2 at *
      generalize w1.heap.size = b1 at *
      refine (CS1'.out w2 G2.out).mono ?_
      rintro e w3 ⟨rfl, g3⟩
      have G4 : Hid (Below w0.heap.size w0 (w3.alloc (.cells #[.int .i64 0, .int .i64 0, .int .i64 0, .int .i64 0] 39))) := Lib.hid ((G2.out.trans (g3.mono G2.out.size)).alloc (Nat.le_trans G2.out.size g3.size) _)
      have S4 : Hid ((w3.alloc (.cells #[.int .i64 0, .int .i64 0, .int .i64 0, .int .i64 0] 39)).heap[b1]? = some (.cells #[.int .i64 0, .int .i64 0, .int .i64 0, .int .i64 0] 39 (0, 0))) := Lib.hid (by rw [Below.heap_alloc _ _ _ (Nat.lt_of_lt_of_le L2.out g3.size)]; exact (g3.block _ L2.out).trans S2.out)
      have T4 : Hid ((w3.alloc (.cells #[.int .i64 0, .int .i64 0, .int .i64 0, .int .i64 0] 39)).heap[w3.heap.size]? = some (.cells #[.int .i64 0, .int .i64 0, .int .i64 0, .int .i64 0] 39 (0, 0))) := Lib.hid (heap_alloc_new w3 _)
      have R4 := Lib.hid ((G4.out.block _ Lt0.out).trans R0.out)
      have B4 := Lib.hid (Hb0.out.trans (G4.out.mono Hb0.out.size))
      clear g3
      have k0 : (w3.alloc (.cells #[.int .i64 0, .int .i64 0, .int .i64 0, .int .i64 0] 39)).cell? ⟨b1, 0, none⟩ = some (.int .i64 0) := by rw [cell_of_row _ _ _ _ _ _ S4.out]; rfl
      have m0 : (w3.alloc (.cells #[.int .i64 0, .int .i64 0, .int .i64 0, .int .i64 0] 39)).cell? ⟨w3.heap.size, 0, none⟩ = some (.int .i64 0) := by rw [cell_of_row _ _ _ _ _ _ T4.out]; rfl
      have k1 : (w3.alloc (.cells #[.int .i64 0, .int .i64 0, .int .i64 0, .int .i64 0] 39)).cell? ⟨b1, 1, none⟩ = some (.int .i64 0) := by rw [cell_of_row _ _ _ _ _ _ S4.out]; rfl
      have m1 : (w3.alloc (.cells #[.int .i64 0, .int .i64 0, .int .i64 0, .int .i64 0] 39)).cell? ⟨w3.heap.size, 1, none⟩ = some (.int .i64 0) := by rw [cell_of_row _ _ _ _ _ _ T4.out]; rfl
      have k2 : (w3.alloc (.cells #[.int .i64 0, .int .i64 0, .int .i64 0, .int .i64 0] 39)).cell? ⟨b1, 2, none⟩ = some (.int .i64 0) := by rw [cell_of_row _ _ _ _ _ _ S4.out]; rfl
      have m2 : (w3.alloc (.cells #[.int .i64 0, .int .i64 0, .int .i64 0, .int .i64 0] 39)).cell? ⟨w3.heap.size, 2, none⟩ = some (.int .i64 0) := by rw [cell_of_row _ _ _ _ _ _ T4.out]; rfl
      have k3 : (w3.alloc (.cells #[.int .i64 0, .int .i64 0, .int .i64 0, .int .i64 0] 39)).cell? ⟨b1, 3, none⟩ = some (.int .i64 0) := by rw [cell_of_row _ _ _ _ _ _ S4.out]; rfl
      have m3 : (w3.alloc (.cells #[.int .i64 0, .int .i64 0, .int .i64 0, .int .i64 0] 39)).cell? ⟨w3.heap.size, 3, none⟩ = some (.int .i64 0) := by rw [cell_of_row _ _ _ _ _ _ T4.out]; rfl
      go_wp2_with (refine wpList_store_row rfl 39 (.tmp 2) (.tmp 35) rfl w.heap.size #[.int .i64 0, .int .i64 0, .int .i64 0, .int .i64 0] rfl rfl 39 _ R4.out (infoS4 _ _ _ _) rfl oneS4 ?_)
      refine bodyPost_ret (v := .tuple #[.agg #[.int .i64 0, .int .i64 0, .int .i64 0, .int .i64 0], .int .i64 10]) ?_ rfl ?_
      · exact results_cell_row2 rfl _ _ w.heap.size 39 _ (0, 0) _ _ rfl rfl (setRow_heap _ _ _ _ _ _ R4.out) Try.underlying39 rfl (by kernel_rfl)
      · exact ⟨by rw [Hf.out.1, Hf.out.2], below_setRow B4.out (Nat.le_refl _) _⟩
    · skip
      have Hf : Hid (RA = #[.int .i64 z0, .int .i64 z1, .int .i64 z2, .int .i64 t1] ∧ RC = 0) := Lib.hid (by
        have h : RW = 1 := by rw [HW.out]; simp
        exact ⟨by rw [HA.out, h]; rfl, by rw [HC.out, h]; rfl⟩)
      clear HA HC HW
      go_enter Try.func130, Try.ntmps130
      go_wp2_with fail
      generalize (w.alloc (.cells #[.int .i64 0, .int .i64 0, .int .i64 0, .int .i64 0] 39)) = w0 at *
      refine (CS0'.out w0 (Below.refl _ _)).mono ?_
      rintro e w1 ⟨rfl, g1⟩
      have G2 : Hid (Below w0.heap.size w0 (w1.alloc (.cells #[.int .i64 0, .int .i64 0, .int .i64 0, .int .i64 0] 39))) := Lib.hid (g1.alloc g1.size _)
      have S2 : Hid ((w1.alloc (.cells #[.int .i64 0, .int .i64 0, .int .i64 0, .int .i64 0] 39)).heap[w1.heap.size]? = some (.cells #[.int .i64 0, .int .i64 0, .int .i64 0, .int .i64 0] 39 (0, 0))) := Lib.hid (heap_alloc_new w1 _)
      have L2 : Hid (w1.heap.size < (w1.alloc (.cells #[.int .i64 0, .int .i64 0, .int .i64 0, .int .i64 0] 39)).heap.size) := Lib.hid (by simp)
      clear g1
      go_wp2_with fail
      generalize (w1.alloc (.cells #[.int .i64 0, .int .i64 0, .int .i64 0, .int .i64 0] 39)) = w2 at *
      generalize w1.heap.size = b1 at *
      refine (CS1'.out w2 G2.out).mono ?_
      rintro e w3 ⟨rfl, g3⟩
      have G4 : Hid (Below w0.heap.size w0 (w3.alloc (.cells #[.int .i64 z0, .int .i64 z1, .int .i64 z2, .int .i64 t1] 39))) := Lib.hid ((G2.out.trans (g3.mono G2.out.size)).alloc (Nat.le_trans G2.out.size g3.size) _)
      have S4 : Hid ((w3.alloc (.cells #[.int .i64 z0, .int .i64 z1, .int .i64 z2, .int .i64 t1] 39)).heap[b1]? = some (.cells #[.int .i64 0, .int .i64 0, .int .i64 0, .int .i64 0] 39 (0, 0))) := Lib.hid (by rw [Below.heap_alloc _ _ _ (Nat.lt_of_lt_of_le L2.out g3.size)]; exact (g3.block _ L2.out).trans S2.out)
      have T4 : Hid ((w3.alloc (.cells #[.int .i64 z0, .int .i64 z1, .int .i64 z2, .int .i64 t1] 39)).heap[w3.heap.size]? = some (.cells #[.int .i64 z0, .int .i64 z1, .int .i64 z2, .int .i64 t1] 39 (0, 0))) := Lib.hid (heap_alloc_new w3 _)
      have R4 := Lib.hid ((G4.out.block _ Lt0.out).trans R0.out)
      have B4 := Lib.hid (Hb0.out.trans (G4.out.mono Hb0.out.size))
      clear g3
      have k0 : (w3.alloc (.cells #[.int .i64 z0, .int .i64 z1, .int .i64 z2, .int .i64 t1] 39)).cell? ⟨b1, 0, none⟩ = some (.int .i64 0) := by rw [cell_of_row _ _ _ _ _ _ S4.out]; rfl
      have m0 : (w3.alloc (.cells #[.int .i64 z0, .int .i64 z1, .int .i64 z2, .int .i64 t1] 39)).cell? ⟨w3.heap.size, 0, none⟩ = some (.int .i64 z0) := by rw [cell_of_row _ _ _ _ _ _ T4.out]; rfl
      have k1 : (w3.alloc (.cells #[.int .i64 z0, .int .i64 z1, .int .i64 z2, .int .i64 t1] 39)).cell? ⟨b1, 1, none⟩ = some (.int .i64 0) := by rw [cell_of_row _ _ _ _ _ _ S4.out]; rfl
      have m1 : (w3.alloc (.cells #[.int .i64 z0, .int .i64 z1, .int .i64 z2, .int .i64 t1] 39)).cell? ⟨w3.heap.size, 1, none⟩ = some (.int .i64 z1) := by rw [cell_of_row _ _ _ _ _ _ T4.out]; rfl
      have k2 : (w3.alloc (.cells #[.int .i64 z0, .int .i64 z1, .int .i64 z2, .int .i64 t1] 39)).cell? ⟨b1, 2, none⟩ = some (.int .i64 0) := by rw [cell_of_row _ _ _ _ _ _ S4.out]; rfl
      have m2 : (w3.alloc (.cells #[.int .i64 z0, .int .i64 z1, .int .i64 z2, .int .i64 t1] 39)).cell? ⟨w3.heap.size, 2, none⟩ = some (.int .i64 z2) := by rw [cell_of_row _ _ _ _ _ _ T4.out]; rfl
      have k3 : (w3.alloc (.cells #[.int .i64 z0, .int .i64 z1, .int .i64 z2, .int .i64 t1] 39)).cell? ⟨b1, 3, none⟩ = some (.int .i64 0) := by rw [cell_of_row _ _ _ _ _ _ S4.out]; rfl
      have m3 : (w3.alloc (.cells #[.int .i64 z0, .int .i64 z1, .int .i64 z2, .int .i64 t1] 39)).cell? ⟨w3.heap.size, 3, none⟩ = some (.int .i64 t1) := by rw [cell_of_row _ _ _ _ _ _ T4.out]; rfl
      go_wp2_with (refine wpList_store_row rfl 39 (.tmp 2) (.tmp 34) rfl w.heap.size #[.int .i64 z0, .int .i64 z1, .int .i64 z2, .int .i64 t1] rfl rfl 39 _ R4.out (infoS4 _ _ _ _) rfl oneS4 ?_)
      refine bodyPost_ret (v := .tuple #[.agg #[.int .i64 z0, .int .i64 z1, .int .i64 z2, .int .i64 t1], .int .i64 0]) ?_ rfl ?_
      · exact results_cell_row2 rfl _ _ w.heap.size 39 _ (0, 0) _ _ rfl rfl (setRow_heap _ _ _ _ _ _ R4.out) Try.underlying39 rfl (by kernel_rfl)
      · exact ⟨by rw [Hf.out.1, Hf.out.2], below_setRow B4.out (Nat.le_refl _) _⟩
  rcases q1 with ⟨rfl, rfl⟩ | ⟨rfl, e1, z0, z1, z2, rfl⟩
  · skip
    have Hf : Hid (RA = #[.int .i64 x0, .int .i64 x1, .int .i64 x2, .int .i64 t0] ∧ RC = 0) := Lib.hid (by
      have h : RW = 0 := by rw [HW.out]; simp
      exact ⟨by rw [HA.out, h]; rfl, by rw [HC.out, h]; rfl⟩)
    clear HA HC HW
    go_enter Try.func130, Try.ntmps130
    go_wp2_with fail
    generalize (w.alloc (.cells #[.int .i64 0, .int .i64 0, .int .i64 0, .int .i64 0] 39)) = w0 at *
    refine (CS0'.out w0 (Below.refl _ _)).mono ?_
    rintro e w1 ⟨rfl, g1⟩
    have G2 : Hid (Below w0.heap.size w0 (w1.alloc (.cells #[.int .i64 x0, .int .i64 x1, .int .i64 x2, .int .i64 t0] 39))) := Lib.hid (g1.alloc g1.size _)
    have S2 : Hid ((w1.alloc (.cells #[.int .i64 x0, .int .i64 x1, .int .i64 x2, .int .i64 t0] 39)).heap[w1.heap.size]? = some (.cells #[.int .i64 x0, .int .i64 x1, .int .i64 x2, .int .i64 t0] 39 (0, 0))) := Lib.hid (heap_alloc_new w1 _)
    have L2 : Hid (w1.heap.size < (w1.alloc (.cells #[.int .i64 x0, .int .i64 x1, .int .i64 x2, .int .i64 t0] 39)).heap.size) := Lib.hid (by simp)
    clear g1
    go_wp2_with fail
    generalize (w1.alloc (.cells #[.int .i64 x0, .int .i64 x1, .int .i64 x2, .int .i64 t0] 39)) = w2 at *
    generalize w1.heap.size = b1 at *
    refine (CS1'.out w2 G2.out).mono ?_
    rintro e w3 ⟨rfl, g3⟩
    have G4 : Hid (Below w0.heap.size w0 (w3.alloc (.cells #[.int .i64 0, .int .i64 0, .int .i64 0, .int .i64 0] 39))) := Lib.hid ((G2.out.trans (g3.mono G2.out.size)).alloc (Nat.le_trans G2.out.size g3.size) _)
    have S4 : Hid ((w3.alloc (.cells #[.int .i64 0, .int .i64 0, .int .i64 0, .int .i64 0] 39)).heap[b1]? = some (.cells #[.int .i64 x0, .int .i64 x1, .int .i64 x2, .int .i64 t0] 39 (0, 0))) := Lib.hid (by rw [Below.heap_alloc _ _ _ (Nat.lt_of_lt_of_le L2.out g3.size)]; exact (g3.block _ L2.out).trans S2.out)
    have T4 : Hid ((w3.alloc (.cells #[.int .i64 0, .int .i64 0, .int .i64 0, .int .i64 0] 39)).heap[w3.heap.size]? = some (.cells #[.int .i64 0, .int .i64 0, .int .i64 0, .int .i64 0] 39 (0, 0))) := Lib.hid (heap_alloc_new w3 _)
    have R4 := Lib.hid ((G4.out.block _ Lt0.out).trans R0.out)
    have B4 := Lib.hid (Hb0.out.trans (G4.out.mono Hb0.out.size))
    clear g3
    have k0 : (w3.alloc (.cells #[.int .i64 0, .int .i64 0, .int .i64 0, .int .i64 0] 39)).cell? ⟨b1, 0, none⟩ = some (.int .i64 x0) := by rw [cell_of_row _ _ _ _ _ _ S4.out]; rfl
    have m0 : (w3.alloc (.cells #[.int .i64 0, .int .i64 0, .int .i64 0, .int .i64 0] 39)).cell? ⟨w3.heap.size, 0, none⟩ = some (.int .i64 0) := by rw [cell_of_row _ _ _ _ _ _ T4.out]; rfl
    have k1 : (w3.alloc (.cells #[.int .i64 0, .int .i64 0, .int .i64 0, .int .i64 0] 39)).cell? ⟨b1, 1, none⟩ = some (.int .i64 x1) := by rw [cell_of_row _ _ _ _ _ _ S4.out]; rfl
    have m1 : (w3.alloc (.cells #[.int .i64 0, .int .i64 0, .int .i64 0, .int .i64 0] 39)).cell? ⟨w3.heap.size, 1, none⟩ = some (.int .i64 0) := by rw [cell_of_row _ _ _ _ _ _ T4.out]; rfl
    have k2 : (w3.alloc (.cells #[.int .i64 0, .int .i64 0, .int .i64 0, .int .i64 0] 39)).cell? ⟨b1, 2, none⟩ = some (.int .i64 x2) := by rw [cell_of_row _ _ _ _ _ _ S4.out]; rfl
    have m2 : (w3.alloc (.cells #[.int .i64 0, .int .i64 0, .int .i64 0, .int .i64 0] 39)).cell? ⟨w3.heap.size, 2, none⟩ = some (.int .i64 0) := by rw [cell_of_row _ _ _ _ _ _ T4.out]; rfl
    have k3 : (w3.alloc (.cells #[.int .i64 0, .int .i64 0, .int .i64 0, .int .i64 0] 39)).cell? ⟨b1, 3, none⟩ = some (.int .i64 t0) := by rw [cell_of_row _ _ _ _ _ _ S4.out]; rfl
    have m3 : (w3.alloc (.cells #[.int .i64 0, .int .i64 0, .int .i64 0, .int .i64 0] 39)).cell? ⟨w3.heap.size, 3, none⟩ = some (.int .i64 0) := by rw [cell_of_row _ _ _ _ _ _ T4.out]; rfl
    go_wp2_with (refine wpList_store_row rfl 39 (.tmp 2) (.tmp 31) rfl w.heap.size #[.int .i64 x0, .int .i64 x1, .int .i64 x2, .int .i64 t0] rfl rfl 39 _ R4.out (infoS4 _ _ _ _) rfl oneS4 ?_)
    refine bodyPost_ret (v := .tuple #[.agg #[.int .i64 x0, .int .i64 x1, .int .i64 x2, .int .i64 t0], .int .i64 0]) ?_ rfl ?_
    · exact results_cell_row2 rfl _ _ w.heap.size 39 _ (0, 0) _ _ rfl rfl (setRow_heap _ _ _ _ _ _ R4.out) Try.underlying39 rfl (by kernel_rfl)
    · exact ⟨by rw [Hf.out.1, Hf.out.2], below_setRow B4.out (Nat.le_refl _) _⟩
  by_cases ht : t1 < t0
  · have dt : decide (t0 > t1) = true := decide_eq_true ht
    have Hf : Hid (RA = #[.int .i64 x0, .int .i64 x1, .int .i64 x2, .int .i64 t0] ∧ RC = 0) := Lib.hid (by
      have h : RW = 0 := by rw [HW.out]; simp [ht]
      exact ⟨by rw [HA.out, h]; rfl, by rw [HC.out, h]; rfl⟩)
    clear HA HC HW
    go_enter Try.func130, Try.ntmps130
    go_wp2_with fail
    generalize (w.alloc (.cells #[.int .i64 0, .int .i64 0, .int .i64 0, .int .i64 0] 39)) = w0 at *
    refine (CS0'.out w0 (Below.refl _ _)).mono ?_
    rintro e w1 ⟨rfl, g1⟩
    have G2 : Hid (Below w0.heap.size w0 (w1.alloc (.cells #[.int .i64 x0, .int .i64 x1, .int .i64 x2, .int .i64 t0] 39))) := Lib.hid (g1.alloc g1.size _)
    have S2 : Hid ((w1.alloc (.cells #[.int .i64 x0, .int .i64 x1, .int .i64 x2, .int .i64 t0] 39)).heap[w1.heap.size]? = some (.cells #[.int .i64 x0, .int .i64 x1, .int .i64 x2, .int .i64 t0] 39 (0, 0))) := Lib.hid (heap_alloc_new w1 _)
    have L2 : Hid (w1.heap.size < (w1.alloc (.cells #[.int .i64 x0, .int .i64 x1, .int .i64 x2, .int .i64 t0] 39)).heap.size) := Lib.hid (by simp)
    clear g1
    go_wp2_with fail
    generalize (w1.alloc (.cells #[.int .i64 x0, .int .i64 x1, .int .i64 x2, .int .i64 t0] 39)) = w2 at *
    generalize w1.heap.size = b1 at *
    refine (CS1'.out w2 G2.out).mono ?_
    rintro e w3 ⟨rfl, g3⟩
    have G4 : Hid (Below w0.heap.size w0 (w3.alloc (.cells #[.int .i64 z0, .int .i64 z1, .int .i64 z2, .int .i64 t1] 39))) := Lib.hid ((G2.out.trans (g3.mono G2.out.size)).alloc (Nat.le_trans G2.out.size g3.size) _)
    have S4 : Hid ((w3.alloc (.cells #[.int .i64 z0, .int .i64 z1, .int .i64 z2, .int .i64 t1] 39)).heap[b1]? = some (.cells #[.int .i64 x0, .int .i64 x1, .int .i64 x2, .int .i64 t0] 39 (0, 0))) := Lib.hid (by rw [Below.heap_alloc _ _ _ (Nat.lt_of_lt_of_le L2.out g3.size)]; exact (g3.block _ L2.out).trans S2.out)
    have T4 : Hid ((w3.alloc (.cells #[.int .i64 z0, .int .i64 z1, .int .i64 z2, .int .i64 t1] 39)).heap[w3.heap.size]? = some (.cells #[.int .i64 z0, .int .i64 z1, .int .i64 z2, .int .i64 t1] 39 (0, 0))) := Lib.hid (heap_alloc_new w3 _)
    have R4 := Lib.hid ((G4.out.block _ Lt0.out).trans R0.out)
    have B4 := Lib.hid (Hb0.out.trans (G4.out.mono Hb0.out.size))
    clear g3
    have k0 : (w3.alloc (.cells #[.int .i64 z0, .int .i64 z1, .int .i64 z2, .int .i64 t1] 39)).cell? ⟨b1, 0, none⟩ = some (.int .i64 x0) := by rw [cell_of_row _ _ _ _ _ _ S4.out]; rfl
    have m0 : (w3.alloc (.cells #[.int .i64 z0, .int .i64 z1, .int .i64 z2, .int .i64 t1] 39)).cell? ⟨w3.heap.size, 0, none⟩ = some (.int .i64 z0) := by rw [cell_of_row _ _ _ _ _ _ T4.out]; rfl
    have k1 : (w3.alloc (.cells #[.int .i64 z0, .int .i64 z1, .int .i64 z2, .int .i64 t1] 39)).cell? ⟨b1, 1, none⟩ = some (.int .i64 x1) := by rw [cell_of_row _ _ _ _ _ _ S4.out]; rfl
    have m1 : (w3.alloc (.cells #[.int .i64 z0, .int .i64 z1, .int .i64 z2, .int .i64 t1] 39)).cell? ⟨w3.heap.size, 1, none⟩ = some (.int .i64 z1) := by rw [cell_of_row _ _ _ _ _ _ T4.out]; rfl
    have k2 : (w3.alloc (.cells #[.int .i64 z0, .int .i64 z1, .int .i64 z2, .int .i64 t1] 39)).cell? ⟨b1, 2, none⟩ = some (.int .i64 x2) := by rw [cell_of_row _ _ _ _ _ _ S4.out]; rfl
    have m2 : (w3.alloc (.cells #[.int .i64 z0, .int .i64 z1, .int .i64 z2, .int .i64 t1] 39)).cell? ⟨w3.heap.size, 2, none⟩ = some (.int .i64 z2) := by rw [cell_of_row _ _ _ _ _ _ T4.out]; rfl
    have k3 : (w3.alloc (.cells #[.int .i64 z0, .int .i64 z1, .int .i64 z2, .int .i64 t1] 39)).cell? ⟨b1, 3, none⟩ = some (.int .i64 t0) := by rw [cell_of_row _ _ _ _ _ _ S4.out]; rfl
    have m3 : (w3.alloc (.cells #[.int .i64 z0, .int .i64 z1, .int .i64 z2, .int .i64 t1] 39)).cell? ⟨w3.heap.size, 3, none⟩ = some (.int .i64 t1) := by rw [cell_of_row _ _ _ _ _ _ T4.out]; rfl
    go_wp2_with (refine wpList_store_row rfl 39 (.tmp 2) (.tmp 31) rfl w.heap.size #[.int .i64 x0, .int .i64 x1, .int .i64 x2, .int .i64 t0] rfl rfl 39 _ R4.out (infoS4 _ _ _ _) rfl oneS4 ?_)
    refine bodyPost_ret (v := .tuple #[.agg #[.int .i64 x0, .int .i64 x1, .int .i64 x2, .int .i64 t0], .int .i64 0]) ?_ rfl ?_
    · exact results_cell_row2 rfl _ _ w.heap.size 39 _ (0, 0) _ _ rfl rfl (setRow_heap _ _ _ _ _ _ R4.out) Try.underlying39 rfl (by kernel_rfl)
    · exact ⟨by rw [Hf.out.1, Hf.out.2], below_setRow B4.out (Nat.le_refl _) _⟩
  · have dt : decide (t0 > t1) = false := decide_eq_false ht
    have Hf : Hid (RA = #[.int .i64 z0, .int .i64 z1, .int .i64 z2, .int .i64 t1] ∧ RC = 0) := Lib.hid (by
      have h : RW = 1 := by rw [HW.out]; simp [ht]
      exact ⟨by rw [HA.out, h]; rfl, by rw [HC.out, h]; rfl⟩)
    clear HA HC HW
    go_enter Try.func130, Try.ntmps130
    go_wp2_with fail
    generalize (w.alloc (.cells #[.int .i64 0, .int .i64 0, .int .i64 0, .int .i64 0] 39)) = w0 at *
    refine (CS0'.out w0 (Below.refl _ _)).mono ?_
    rintro e w1 ⟨rfl, g1⟩
    have G2 : Hid (Below w0.heap.size w0 (w1.alloc (.cells #[.int .i64 x0, .int .i64 x1, .int .i64 x2, .int .i64 t0] 39))) := Lib.hid (g1.alloc g1.size _)
    have S2 : Hid ((w1.alloc (.cells #[.int .i64 x0, .int .i64 x1, .int .i64 x2, .int .i64 t0] 39)).heap[w1.heap.size]? = some (.cells #[.int .i64 x0, .int .i64 x1, .int .i64 x2, .int .i64 t0] 39 (0, 0))) := Lib.hid (heap_alloc_new w1 _)
    have L2 : Hid (w1.heap.size < (w1.alloc (.cells #[.int .i64 x0, .int .i64 x1, .int .i64 x2, .int .i64 t0] 39)).heap.size) := Lib.hid (by simp)
    clear g1
    go_wp2_with fail
    generalize (w1.alloc (.cells #[.int .i64 x0, .int .i64 x1, .int .i64 x2, .int .i64 t0] 39)) = w2 at *
    generalize w1.heap.size = b1 at *
    refine (CS1'.out w2 G2.out).mono ?_
    rintro e w3 ⟨rfl, g3⟩
    have G4 : Hid (Below w0.heap.size w0 (w3.alloc (.cells #[.int .i64 z0, .int .i64 z1, .int .i64 z2, .int .i64 t1] 39))) := Lib.hid ((G2.out.trans (g3.mono G2.out.size)).alloc (Nat.le_trans G2.out.size g3.size) _)
    have S4 : Hid ((w3.alloc (.cells #[.int .i64 z0, .int .i64 z1, .int .i64 z2, .int .i64 t1] 39)).heap[b1]? = some (.cells #[.int .i64 x0, .int .i64 x1, .int .i64 x2, .int .i64 t0] 39 (0, 0))) := Lib.hid (by rw [Below.heap_alloc _ _ _ (Nat.lt_of_lt_of_le L2.out g3.size)]; exact (g3.block _ L2.out).trans S2.out)
    have T4 : Hid ((w3.alloc (.cells #[.int .i64 z0, .int .i64 z1, .int .i64 z2, .int .i64 t1] 39)).heap[w3.heap.size]? = some (.cells #[.int .i64 z0, .int .i64 z1, .int .i64 z2, .int .i64 t1] 39 (0, 0))) := Lib.hid (heap_alloc_new w3 _)
    have R4 := Lib.hid ((G4.out.block _ Lt0.out).trans R0.out)
    have B4 := Lib.hid (Hb0.out.trans (G4.out.mono Hb0.out.size))
    clear g3
    have k0 : (w3.alloc (.cells #[.int .i64 z0, .int .i64 z1, .int .i64 z2, .int .i64 t1] 39)).cell? ⟨b1, 0, none⟩ = some (.int .i64 x0) := by rw [cell_of_row _ _ _ _ _ _ S4.out]; rfl
    have m0 : (w3.alloc (.cells #[.int .i64 z0, .int .i64 z1, .int .i64 z2, .int .i64 t1] 39)).cell? ⟨w3.heap.size, 0, none⟩ = some (.int .i64 z0) := by rw [cell_of_row _ _ _ _ _ _ T4.out]; rfl
    have k1 : (w3.alloc (.cells #[.int .i64 z0, .int .i64 z1, .int .i64 z2, .int .i64 t1] 39)).cell? ⟨b1, 1, none⟩ = some (.int .i64 x1) := by rw [cell_of_row _ _ _ _ _ _ S4.out]; rfl
    have m1 : (w3.alloc (.cells #[.int .i64 z0, .int .i64 z1, .int .i64 z2, .int .i64 t1] 39)).cell? ⟨w3.heap.size, 1, none⟩ = some (.int .i64 z1) := by rw [cell_of_row _ _ _ _ _ _ T4.out]; rfl
    have k2 : (w3.alloc (.cells #[.int .i64 z0, .int .i64 z1, .int .i64 z2, .int .i64 t1] 39)).cell? ⟨b1, 2, none⟩ = some (.int .i64 x2) := by rw [cell_of_row _ _ _ _ _ _ S4.out]; rfl
    have m2 : (w3.alloc (.cells #[.int .i64 z0, .int .i64 z1, .int .i64 z2, .int .i64 t1] 39)).cell? ⟨w3.heap.size, 2, none⟩ = some (.int .i64 z2) := by rw [cell_of_row _ _ _ _ _ _ T4.out]; rfl
    have k3 : (w3.alloc (.cells #[.int .i64 z0, .int .i64 z1, .int .i64 z2, .int .i64 t1] 39)).cell? ⟨b1, 3, none⟩ = some (.int .i64 t0) := by rw [cell_of_row _ _ _ _ _ _ S4.out]; rfl
    have m3 : (w3.alloc (.cells #[.int .i64 z0, .int .i64 z1, .int .i64 z2, .int .i64 t1] 39)).cell? ⟨w3.heap.size, 3, none⟩ = some (.int .i64 t1) := by rw [cell_of_row _ _ _ _ _ _ T4.out]; rfl
    go_wp2_with (refine wpList_store_row rfl 39 (.tmp 2) (.tmp 34) rfl w.heap.size #[.int .i64 z0, .int .i64 z1, .int .i64 z2, .int .i64 t1] rfl rfl 39 _ R4.out (infoS4 _ _ _ _) rfl oneS4 ?_)
    refine bodyPost_ret (v := .tuple #[.agg #[.int .i64 z0, .int .i64 z1, .int .i64 z2, .int .i64 t1], .int .i64 0]) ?_ rfl ?_
    · exact results_cell_row2 rfl _ _ w.heap.size 39 _ (0, 0) _ _ rfl rfl (setRow_heap _ _ _ _ _ _ R4.out) Try.underlying39 rfl (by kernel_rfl)
    · exact ⟨by rw [Hf.out.1, Hf.out.2], below_setRow B4.out (Nat.le_refl _) _⟩
set_option maxHeartbeats 2000000 in
set_option maxRecDepth 100000 in
theorem specChooseSuper_any {B : Nat} {w : World} {v1 v2 : Value} {ss : List ByteArray} {ps : List Pt} {fz : Int} {off : Bool} (h1 : RiT B w v1 ss) (h2 : RiU B w v2 ps) (hB : B ≤ w.heap.size) :
    Calls Try.prog 56 #[.agg #[v1, v2, .int .i64 fz, .bool off]] w (GivesB (.tuple #[.agg (csA ss ps fz), .int .i64 (csC ss ps fz)]) w) := by
  have H1 := Lib.hid h1; obtain ⟨A1, c1, rfl, l1, m1, -⟩ := h1
  have H2 := Lib.hid h2; obtain ⟨A2, c2, rfl, -, -, -⟩ := h2
  have Hb0 : Hid (Below w.heap.size w ((w.alloc (.cells #[.slice A1 ss.length c1, .slice A2 ps.length c2, .int .i64 fz, .bool off] 38)).alloc (.cells #[.int .i64 0, .int .i64 0, .int .i64 0, .int .i64 0] 39))) := Lib.hid (((Below.refl _ w).alloc (Nat.le_refl _) _).alloc (by simp) _)
  have R0 : Hid (DB ((w.alloc (.cells #[.slice A1 ss.length c1, .slice A2 ps.length c2, .int .i64 fz, .bool off] 38)).alloc (.cells #[.int .i64 0, .int .i64 0, .int .i64 0, .int .i64 0] 39)) w.heap.size (.slice A1 ss.length c1) (.slice A2 ps.length c2) fz off) := Lib.hid (heap_alloc2_old w _ _)
  have S0 : Hid (((w.alloc (.cells #[.slice A1 ss.length c1, .slice A2 ps.length c2, .int .i64 fz, .bool off] 38)).alloc (.cells #[.int .i64 0, .int .i64 0, .int .i64 0, .int .i64 0] 39)).heap[w.heap.size + 1]? = some (.cells #[.int .i64 0, .int .i64 0, .int .i64 0, .int .i64 0] 39 (0, 0))) := Lib.hid (heap_alloc2_new w _ _)
  have Lt0 : Hid (w.heap.size + 1 < ((w.alloc (.cells #[.slice A1 ss.length c1, .slice A2 ps.length c2, .int .i64 fz, .bool off] 38)).alloc (.cells #[.int .i64 0, .int .i64 0, .int .i64 0, .int .i64 0] 39)).heap.size) := Lib.hid (by simp)
  have HA : Hid (csA ss ps fz = if dskOk ss ps fz then chA ss ps else #[.int .i64 0, .int .i64 0, .int .i64 0, .int .i64 0]) := Lib.hid rfl
  have HC : Hid (csC ss ps fz = if dskOk ss ps fz then chC ss ps else 1) := Lib.hid rfl
  generalize csA ss ps fz = RA at *
  generalize csC ss ps fz = RC at *
  have CO := Lib.hid (fun r (hr : dskOk ss ps fz = r) => l09Ok_any hr R0.out (H1.out.at hB Hb0.out) (H2.out.at hB Hb0.out))
  cases hok : dskOk ss ps fz
  · have Hf : Hid (RA = #[.int .i64 0, .int .i64 0, .int .i64 0, .int .i64 0] ∧ RC = 1) := Lib.hid ⟨by rw [HA.out, hok]; rfl, by rw [HC.out, hok]; rfl⟩
    have C1 := Lib.hid (CO.out _ hok)
    clear hok CO
    go_enter Try.func56, Try.ntmps56
    go_wp2_with (first | (go_at_call 129; refine C1.out.mono ?_; rintro e w' ⟨rfl, rfl⟩) | (refine wpList_store_row rfl 39 (.tmp 2) (.tmp 6) rfl (w.heap.size + 1) #[.int .i64 0, .int .i64 0, .int .i64 0, .int .i64 0] rfl rfl 39 _ S0.out (infoS4 _ _ _ _) rfl oneS4 ?_))
    refine bodyPost_ret (v := .tuple #[.agg #[.int .i64 0, .int .i64 0, .int .i64 0, .int .i64 0], .int .i64 1]) ?_ rfl ?_
    · exact results_cell_row2 rfl _ _ (w.heap.size + 1) 39 _ (0, 0) _ _ rfl rfl (setRow_heap _ _ _ _ _ _ S0.out) Try.underlying39 rfl (by kernel_rfl)
    · exact ⟨by rw [Hf.out.1, Hf.out.2], below_setRow Hb0.out (Nat.le_succ _) _⟩
  have C1 := Lib.hid (CO.out _ hok)
  have C2 := Lib.hid (l10Choose_any hok R0.out (H1.out.at hB Hb0.out) (H2.out.at hB Hb0.out) (Nat.le_refl _))
  obtain ⟨x0, x1, x2, x3, hA⟩ : ∃ x0 x1 x2 x3 : Int, chA ss ps = #[.int .i64 x0, .int .i64 x1, .int .i64 x2, .int .i64 x3] := by
    unfold chA slA
    split
    · split <;> exact ⟨_, _, _, _, rfl⟩
    · split
      · split <;> exact ⟨_, _, _, _, rfl⟩
      · exact ⟨_, _, _, _, rfl⟩
  have Hf : Hid (RA = #[.int .i64 x0, .int .i64 x1, .int .i64 x2, .int .i64 x3] ∧ RC = chC ss ps) := Lib.hid ⟨by rw [HA.out, hok, ← hA]; rfl, by rw [HC.out, hok]; rfl⟩
  rw [hA] at C2
  clear hok CO hA HA HC
  generalize chC ss ps = cc at *
  go_enter Try.func56, Try.ntmps56
  go_wp2_with ((go_at_call 129; refine C1.out.mono ?_; rintro e w' ⟨rfl, rfl⟩))
  generalize ((w.alloc (.cells #[.slice A1 ss.length c1, .slice A2 ps.length c2, .int .i64 fz, .bool off] 38)).alloc (.cells #[.int .i64 0, .int .i64 0, .int .i64 0, .int .i64 0] 39)) = w0 at *
  refine C2.out.mono ?_
  rintro e w1 ⟨rfl, g⟩
  have Hb1 := Lib.hid (Hb0.out.trans (g.mono Hb0.out.size))
  have S1 := Lib.hid ((g.block _ Lt0.out).trans S0.out)
  clear g
  go_wp2_with (refine wpList_store_row rfl 39 (.tmp 2) (.tmp 8) rfl (w.heap.size + 1) #[.int .i64 x0, .int .i64 x1, .int .i64 x2, .int .i64 x3] rfl rfl 39 _ S1.out (infoS4 _ _ _ _) rfl oneS4 ?_)
  refine bodyPost_ret (v := .tuple #[.agg #[.int .i64 x0, .int .i64 x1, .int .i64 x2, .int .i64 x3], .int .i64 cc]) ?_ rfl ?_
  · exact results_cell_row2 rfl _ _ (w.heap.size + 1) 39 _ (0, 0) _ _ rfl rfl (setRow_heap _ _ _ _ _ _ S1.out) Try.underlying39 rfl (by kernel_rfl)
  · exact ⟨by rw [Hf.out.1, Hf.out.2], below_setRow Hb1.out (Nat.le_succ _) _⟩
end Go.Proofs.Ytlickjmdlooapaa
