/- The contracts of the program's halfOf and EncodeSuper. No statement is proved here. -/
import Derived.Test.YtlickjmdlooapaaSpI
import Derived.Test.YtlickjmdlooapaaEnS
import Derived.Test.YtlickjmdlooapaaNuI
import Derived.Test.YtlickjmdlooapaaDvO
namespace Go.Proofs.Ytlickjmdlooapaa
open Go.RowKit
set_option linter.unusedVariables false
/-- The cells of a half. -/
def halfC (n0 n1 n2 n3 : Int) : Array Value := (Lib.byteCells (supP n0 n1 n2 n3).data.toList).toArray
def zero32 : Array Value := Array.replicate 32 (Value.int .u8 0)
theorem zero32_lit : zero32 = #[.int .u8 0, .int .u8 0, .int .u8 0, .int .u8 0, .int .u8 0, .int .u8 0, .int .u8 0, .int .u8 0, .int .u8 0, .int .u8 0, .int .u8 0, .int .u8 0, .int .u8 0, .int .u8 0, .int .u8 0, .int .u8 0, .int .u8 0, .int .u8 0, .int .u8 0, .int .u8 0, .int .u8 0, .int .u8 0, .int .u8 0, .int .u8 0, .int .u8 0, .int .u8 0, .int .u8 0, .int .u8 0, .int .u8 0, .int .u8 0, .int .u8 0, .int .u8 0] := rfl
theorem putU_le {n : Int} {s : Nat} (h1 : 1 ≤ s) (h8 : s ≤ 8) (h0 : 0 ≤ n) (h : n < 2 ^ (8 * s)) : putU n (s : Int) = leS n s := by
  have := putU_yes (n := n) (s := (s : Int)) ⟨by omega, by omega, h0, by rw [Int.toNat_natCast]; exact Int.ediv_eq_zero_of_lt h0 (by exact_mod_cast h)⟩
  rw [this, Int.toNat_natCast]
theorem halfC_size (n0 n1 n2 n3 : Int) : (halfC n0 n1 n2 n3).size = 32 := by
  have h := supP_size n0 n1 n2 n3
  unfold halfC
  rw [List.size_toArray]
  simp only [Lib.byteCells, List.length_map]
  rw [← h]; simp
theorem half_info (n0 n1 n2 n3 : Int) : (Try.prog.info? 167).map (·.size) = some (halfC n0 n1 n2 n3).size := by
  rw [halfC_size]
  kernel_rfl
theorem halfC_one (n0 n1 n2 n3 : Int) : (halfC n0 n1 n2 n3).all (·.oneCell') = true := by
  unfold halfC
  rw [List.all_toArray, List.all_eq_true]
  exact Lib.byteCells_one _
theorem putC_half (n0 n1 n2 n3 : Int) : putC #[.int .u8 0, .int .u8 0, .int .u8 0, .int .u8 0, .int .u8 0, .int .u8 0, .int .u8 0, .int .u8 0, .int .u8 0, .int .u8 0, .int .u8 0, .int .u8 0, .int .u8 0, .int .u8 0, .int .u8 0, .int .u8 0, .int .u8 0, .int .u8 0, .int .u8 0, .int .u8 0, .int .u8 0, .int .u8 0, .int .u8 0, .int .u8 0, .int .u8 0, .int .u8 0, .int .u8 0, .int .u8 0, .int .u8 0, .int .u8 0, .int .u8 0, .int .u8 0] 0 (supH n0 n1 n2 n3).data.toList = halfC n0 n1 n2 n3 := by
  have hz := supH_size n0 n1 n2 n3
  unfold putC halfC supP
  have hl : (supH n0 n1 n2 n3).data.toList.length = 25 := by rw [← hz]; simp
  rw [hl]
  have e1 : (supH n0 n1 n2 n3 ++ zeros 7).data.toList = (supH n0 n1 n2 n3).data.toList ++ (zeros 7).data.toList := by simp
  rw [e1]
  simp only [Lib.byteCells, List.map_append, List.take_zero, List.nil_append]
  rfl
set_option maxHeartbeats 4000000 in
set_option maxRecDepth 100000 in
theorem halfOf_any (n0 n1 n2 n3 : Int) (w : World) (hs : supOk n0 n1 n2 n3 = true) :
    Calls Try.prog 126 #[.agg #[.int .i64 n0, .int .i64 n1, .int .i64 n2, .int .i64 n3]] w (GivesB (.agg (halfC n0 n1 n2 n3)) w) := by
  obtain ⟨a0, a1, a2, a3, a4, a5, a6, a7, a8⟩ := supOk_iff.1 hs
  have f1 : ∀ W, Calls Try.prog 116 #[.int .i64 1, .int .i64 1] W fun e w' => e = .returned (.string (leS 1 1)) ∧ Below W.heap.size W w' := fun W => by
    have := implPutUint_any 1 1 (by omega) W
    rwa [show putU 1 1 = leS 1 1 from putU_le (s := 1) (by omega) (by omega) (by omega) (by decide)] at this
  have f2 : ∀ W, Calls Try.prog 116 #[.int .i64 n0, .int .i64 2] W fun e w' => e = .returned (.string (leS n0 2)) ∧ Below W.heap.size W w' := fun W => by
    have := implPutUint_any n0 2 (by omega) W
    rwa [show putU n0 2 = leS n0 2 from putU_le (s := 2) (by omega) (by omega) (by omega) (by show n0 < 65536; omega)] at this
  have f3 : ∀ W, Calls Try.prog 116 #[.int .i64 n1, .int .i64 2] W fun e w' => e = .returned (.string (leS n1 2)) ∧ Below W.heap.size W w' := fun W => by
    have := implPutUint_any n1 2 (by omega) W
    rwa [show putU n1 2 = leS n1 2 from putU_le (s := 2) (by omega) (by omega) (by omega) (by show n1 < 65536; omega)] at this
  have f4 : ∀ W, Calls Try.prog 116 #[.int .i64 n2, .int .i64 8] W fun e w' => e = .returned (.string (leS n2 8)) ∧ Below W.heap.size W w' := fun W => by
    have := implPutUint_any n2 8 (by omega) W
    rwa [show putU n2 8 = leS n2 8 from putU_le (s := 8) (by omega) (by omega) (by omega) (by show n2 < 18446744073709551616; omega)] at this
  have f5 : ∀ W, Calls Try.prog 116 #[.int .i64 n3, .int .i64 8] W fun e w' => e = .returned (.string (leS n3 8)) ∧ Below W.heap.size W w' := fun W => by
    have := implPutUint_any n3 8 (by omega) W
    rwa [show putU n3 8 = leS n3 8 from putU_le (s := 8) (by omega) (by omega) (by omega) (by show n3 < 18446744073709551616; omega)] at this
  have F1 := Lib.hid f1; have F2 := Lib.hid f2; have F3 := Lib.hid f3; have F4 := Lib.hid f4; have F5 := Lib.hid f5
  clear f1 f2 f3 f4 f5 a0 a1 a2 a3 a4 a5 a6 a7 a8 hs
  go_enter Try.func126, Try.ntmps126
  go_wp2_with fail
  have HW := Lib.hid (rows3 w (.cells #[.int .i64 n0, .int .i64 n1, .int .i64 n2, .int .i64 n3] 39) (.cells #[.int .u8 0, .int .u8 0, .int .u8 0, .int .u8 0, .int .u8 0, .int .u8 0, .int .u8 0, .int .u8 0, .int .u8 0, .int .u8 0, .int .u8 0, .int .u8 0, .int .u8 0, .int .u8 0, .int .u8 0, .int .u8 0, .int .u8 0, .int .u8 0, .int .u8 0, .int .u8 0, .int .u8 0, .int .u8 0, .int .u8 0, .int .u8 0, .int .u8 0, .int .u8 0, .int .u8 0, .int .u8 0, .int .u8 0, .int .u8 0, .int .u8 0, .int .u8 0] 167) (.cells #[.int .u8 0, .int .u8 0, .int .u8 0, .int .u8 0, .int .u8 0, .int .u8 0, .int .u8 0, .int .u8 0, .int .u8 0, .int .u8 0, .int .u8 0, .int .u8 0, .int .u8 0, .int .u8 0, .int .u8 0, .int .u8 0, .int .u8 0, .int .u8 0, .int .u8 0, .int .u8 0, .int .u8 0, .int .u8 0, .int .u8 0, .int .u8 0, .int .u8 0, .int .u8 0, .int .u8 0, .int .u8 0, .int .u8 0, .int .u8 0, .int .u8 0, .int .u8 0] 167))
  generalize (((w.alloc (.cells #[.int .i64 n0, .int .i64 n1, .int .i64 n2, .int .i64 n3] 39)).alloc (.cells #[.int .u8 0, .int .u8 0, .int .u8 0, .int .u8 0, .int .u8 0, .int .u8 0, .int .u8 0, .int .u8 0, .int .u8 0, .int .u8 0, .int .u8 0, .int .u8 0, .int .u8 0, .int .u8 0, .int .u8 0, .int .u8 0, .int .u8 0, .int .u8 0, .int .u8 0, .int .u8 0, .int .u8 0, .int .u8 0, .int .u8 0, .int .u8 0, .int .u8 0, .int .u8 0, .int .u8 0, .int .u8 0, .int .u8 0, .int .u8 0, .int .u8 0, .int .u8 0] 167)).alloc (.cells #[.int .u8 0, .int .u8 0, .int .u8 0, .int .u8 0, .int .u8 0, .int .u8 0, .int .u8 0, .int .u8 0, .int .u8 0, .int .u8 0, .int .u8 0, .int .u8 0, .int .u8 0, .int .u8 0, .int .u8 0, .int .u8 0, .int .u8 0, .int .u8 0, .int .u8 0, .int .u8 0, .int .u8 0, .int .u8 0, .int .u8 0, .int .u8 0, .int .u8 0, .int .u8 0, .int .u8 0, .int .u8 0, .int .u8 0, .int .u8 0, .int .u8 0, .int .u8 0] 167)) = w0 at *
  have HSt : Hid (∀ W, Below (w.heap.size + 1) w0 W → W.cell? ⟨w.heap.size, 0, none⟩ = some (.int .i64 n0) ∧ W.cell? ⟨w.heap.size, 1, none⟩ = some (.int .i64 n1) ∧ W.cell? ⟨w.heap.size, 2, none⟩ = some (.int .i64 n2) ∧ W.cell? ⟨w.heap.size, 3, none⟩ = some (.int .i64 n3)) := Lib.hid (fun W hW => by
    have hr := (hW.block _ (Nat.lt_succ_self _)).trans HW.out.1
    exact ⟨by rw [cell_of_row _ _ _ _ _ _ hr]; rfl, by rw [cell_of_row _ _ _ _ _ _ hr]; rfl, by rw [cell_of_row _ _ _ _ _ _ hr]; rfl, by rw [cell_of_row _ _ _ _ _ _ hr]; rfl⟩)
  have HD : Hid (Below w0.heap.size w0 w0.drew) := Lib.hid (Below.refl _ _).drew
  have Hlo : Hid (w.heap.size + 1 ≤ w0.heap.size) := Lib.hid (by have := HW.out.2.2.2.1; omega)
  have s1 : (leS 1 1).size = 1 := leS_sz _ _
  have s2 : (leS n0 2).size = 2 := leS_sz _ _
  have s3 : (leS n1 2).size = 2 := leS_sz _ _
  have s4 : (leS n2 8).size = 8 := leS_sz _ _
  have s5 : (leS n3 8).size = 8 := leS_sz _ _
  have hH : Hid ((((((⟨#[65, 82, 82, 83]⟩ : ByteArray) ++ leS 1 1) ++ leS n0 2) ++ leS n1 2) ++ leS n2 8) ++ leS n3 8 = supH n0 n1 n2 n3) := Lib.hid rfl
  have HZ := Lib.hid (supH_size n0 n1 n2 n3)
  have HP : Hid (putC #[.int .u8 0, .int .u8 0, .int .u8 0, .int .u8 0, .int .u8 0, .int .u8 0, .int .u8 0, .int .u8 0, .int .u8 0, .int .u8 0, .int .u8 0, .int .u8 0, .int .u8 0, .int .u8 0, .int .u8 0, .int .u8 0, .int .u8 0, .int .u8 0, .int .u8 0, .int .u8 0, .int .u8 0, .int .u8 0, .int .u8 0, .int .u8 0, .int .u8 0, .int .u8 0, .int .u8 0, .int .u8 0, .int .u8 0, .int .u8 0, .int .u8 0, .int .u8 0] 0 (supH n0 n1 n2 n3).data.toList = halfC n0 n1 n2 n3) := Lib.hid (putC_half n0 n1 n2 n3)
  generalize leS 1 1 = b1 at *
  generalize leS n0 2 = b2 at *
  generalize leS n1 2 = b3 at *
  generalize leS n2 8 = b4 at *
  generalize leS n3 8 = b5 at *
  generalize supH n0 n1 n2 n3 = SH at *
  have HCp : Hid (∀ W, Below w0.heap.size w0 W → ∀ ty, (Builtin.copy_ #[119, 9] ty #[.slice (some ⟨w.heap.size + 1 + 1, 0, none⟩) 32 32, .string ((((((⟨#[65, 82, 82, 83]⟩ : ByteArray) ++ b1) ++ b2) ++ b3) ++ b4) ++ b5)]).run Try.prog W = .ok (goInt SH.size) (W.setRow (w.heap.size + 1 + 1) (halfC n0 n1 n2 n3))) := Lib.hid (fun W hW ty => by
    rw [hH.out]
    have hr := (hW.block _ (by have := HW.out.2.2.2.1; omega)).trans HW.out.2.2.1
    have := Lib.run_copy_row_string (P := Try.prog) W 119 9 ty 5 (w.heap.size + 1 + 1) 0 32 32 SH #[.int .u8 0, .int .u8 0, .int .u8 0, .int .u8 0, .int .u8 0, .int .u8 0, .int .u8 0, .int .u8 0, .int .u8 0, .int .u8 0, .int .u8 0, .int .u8 0, .int .u8 0, .int .u8 0, .int .u8 0, .int .u8 0, .int .u8 0, .int .u8 0, .int .u8 0, .int .u8 0, .int .u8 0, .int .u8 0, .int .u8 0, .int .u8 0, .int .u8 0, .int .u8 0, .int .u8 0, .int .u8 0, .int .u8 0, .int .u8 0, .int .u8 0, .int .u8 0] 167 Try.underlying119 (by kernel_rfl) hr (by rw [HZ.out]; decide) (by rw [HZ.out]; decide)
    rw [this, ← HP.out, putC]
    have hsz : SH.data.toList.length = SH.size := by simp
    rw [hsz])
  go_region_held3 (fun W => W.cell? ⟨w.heap.size, 0, none⟩ = some (.int .i64 n0) ∧ W.cell? ⟨w.heap.size, 1, none⟩ = some (.int .i64 n1) ∧ W.cell? ⟨w.heap.size, 2, none⟩ = some (.int .i64 n2) ∧ W.cell? ⟨w.heap.size, 3, none⟩ = some (.int .i64 n3)) (exact HSt.out _ (by first | exact (kb5.mono Hlo.out) | exact (kb4.mono Hlo.out) | exact (kb3.mono Hlo.out) | exact (kb2.mono Hlo.out) | exact (kb1.mono Hlo.out) | exact (HD.out.mono Hlo.out) | exact below_setRow (kb5.mono Hlo.out) (Nat.le_succ _) _))
    ((first | (go_at_call 116; go_fit (F1.out _); rintro e u1 ⟨rfl, g1⟩; have kb1 : Below w0.heap.size w0 u1 := HD.out.trans (g1.mono HD.out.size)) | (go_at_call 116; go_fit (F2.out _); rintro e u2 ⟨rfl, g2⟩; have kb2 : Below w0.heap.size w0 u2 := kb1.trans (g2.mono kb1.size)) | (go_at_call 116; go_fit (F3.out _); rintro e u3 ⟨rfl, g3⟩; have kb3 : Below w0.heap.size w0 u3 := kb2.trans (g3.mono kb2.size)) | (go_at_call 116; go_fit (F4.out _); rintro e u4 ⟨rfl, g4⟩; have kb4 : Below w0.heap.size w0 u4 := kb3.trans (g4.mono kb3.size)) | (go_at_call 116; go_fit (F5.out _); rintro e u5 ⟨rfl, g5⟩; have kb5 : Below w0.heap.size w0 u5 := kb4.trans (g5.mono kb4.size); have hcp := HCp.out u5 kb5 3)))
  simp only [Exit.then]
  have R2 : Hid ((u5.setRow (w.heap.size + 1 + 1) (halfC n0 n1 n2 n3)).heap[w.heap.size + 1 + 1]? = some (.cells (halfC n0 n1 n2 n3) 167 (0, 0))) := Lib.hid (setRow_heap _ _ _ _ _ _ ((kb5.block _ (by have := HW.out.2.2.2.1; omega)).trans HW.out.2.2.1))
  have R1 : Hid ((u5.setRow (w.heap.size + 1 + 1) (halfC n0 n1 n2 n3)).heap[w.heap.size + 1]? = some (.cells #[.int .u8 0, .int .u8 0, .int .u8 0, .int .u8 0, .int .u8 0, .int .u8 0, .int .u8 0, .int .u8 0, .int .u8 0, .int .u8 0, .int .u8 0, .int .u8 0, .int .u8 0, .int .u8 0, .int .u8 0, .int .u8 0, .int .u8 0, .int .u8 0, .int .u8 0, .int .u8 0, .int .u8 0, .int .u8 0, .int .u8 0, .int .u8 0, .int .u8 0, .int .u8 0, .int .u8 0, .int .u8 0, .int .u8 0, .int .u8 0, .int .u8 0, .int .u8 0] 167 (0, 0))) := Lib.hid ((setRow_other _ _ _ _ (by omega)).trans ((kb5.block _ (by have := HW.out.2.2.2.1; omega)).trans HW.out.2.1))
  have B6 : Hid (Below w.heap.size w (u5.setRow (w.heap.size + 1 + 1) (halfC n0 n1 n2 n3))) := Lib.hid (below_setRow (HW.out.2.2.2.2.trans (kb5.mono HW.out.2.2.2.2.size)) (by omega) _)
  have hi := half_info n0 n1 n2 n3
  have Hi := Lib.hid hi; clear hi
  have Hold : Hid ((#[.int .u8 0, .int .u8 0, .int .u8 0, .int .u8 0, .int .u8 0, .int .u8 0, .int .u8 0, .int .u8 0, .int .u8 0, .int .u8 0, .int .u8 0, .int .u8 0, .int .u8 0, .int .u8 0, .int .u8 0, .int .u8 0, .int .u8 0, .int .u8 0, .int .u8 0, .int .u8 0, .int .u8 0, .int .u8 0, .int .u8 0, .int .u8 0, .int .u8 0, .int .u8 0, .int .u8 0, .int .u8 0, .int .u8 0, .int .u8 0, .int .u8 0, .int .u8 0] : Array Value).size = (halfC n0 n1 n2 n3).size) := Lib.hid (by rw [halfC_size]; rfl)
  have H1 := Lib.hid (halfC_one n0 n1 n2 n3)
  clear hcp kb5 kb4 kb3 kb2 kb1 s1 s2 s3 s4 s5
  generalize (u5.setRow (w.heap.size + 1 + 1) (halfC n0 n1 n2 n3)) = w6 at *
  generalize halfC n0 n1 n2 n3 = HC at *
  go_wp2_with (first | (refine wpList_load_row rfl 167 (.tmp 3) rfl _ rfl 167 _ (0, 0) _ R2.out Try.underlying167 rfl Hi.out ?_) | (refine wpList_store_row rfl 167 (.tmp 2) (.tmp 24) rfl (w.heap.size + 1) HC rfl rfl 167 _ R1.out Hi.out Hold.out H1.out ?_))
  refine bodyPost_ret (v := .agg HC) ?_ rfl ?_
  · exact results_cell_row rfl _ _ (w.heap.size + 1) 167 _ (0, 0) _ rfl (setRow_heap _ _ _ _ _ _ R1.out) Try.underlying167 rfl Hi.out
  · exact ⟨rfl, below_setRow B6.out (by omega) _⟩
theorem conv_half {w : World} {g : Nat} {n0 n1 n2 n3 : Int} (h : w.heap[g]? = some (.cells (halfC n0 n1 n2 n3) 167 (0, 0))) : ∀ W : World, W.heap = w.heap → (convert 119 9 (.slice (some ⟨g, 0, none⟩) 32 32)).run Try.prog W = .ok (.string (supP n0 n1 n2 n3)) W := fun W hW => by
  have hb : Lib.Bytes W g 0 (supP n0 n1 n2 n3) := fun i hi => by
    rw [Nat.zero_add, cell_of_row W g i _ 167 (0, 0) (by rw [hW]; exact h)]
    have hl : i < (supP n0 n1 n2 n3).data.toList.length := by simpa using hi
    simp only [halfC, Lib.byteCells, List.getElem?_toArray, List.getElem?_map, List.getElem?_eq_getElem hl, Option.map_some]
    rw [bytes_list _ _ hi]
  have := Lib.run_convert_whole (P := Try.prog) W 119 5 9 Try.underlying119 Try.underlying5 Try.underlying9 g 0 (supP n0 n1 n2 n3) hb 32
  rw [supP_size] at this
  exact this
/-- The two halves, one after the other. -/
theorem supB_eq (n0 n1 n2 n3 : Int) : supB n0 n1 n2 n3 = supP n0 n1 n2 n3 ++ supP n0 n1 n2 n3 := rfl
end Go.Proofs.Ytlickjmdlooapaa
