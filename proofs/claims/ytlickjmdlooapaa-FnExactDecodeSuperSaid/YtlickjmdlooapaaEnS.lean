/- The block of a superblock: the model's text. No statement is proved here. -/
import Derived.Test.YtlickjmdlooapaaSup
import Derived.Test.YtlickjmdlooapaaByt
import Derived.Below
import Derived.Deep.DeepFit
namespace Go.Proofs.Ytlickjmdlooapaa
open Go.RowKit
set_option linter.unusedVariables false
theorem leS_sz (n : Int) (k : Nat) : (leS n k).size = k := by show (leL n k).toArray.size = k; simp [leL]
def supH (n0 n1 n2 n3 : Int) : ByteArray := (((((⟨#[65, 82, 82, 83]⟩ : ByteArray) ++ leS 1 1) ++ leS n0 2) ++ leS n1 2) ++ leS n2 8) ++ leS n3 8
theorem supH_size (n0 n1 n2 n3 : Int) : (supH n0 n1 n2 n3).size = 25 := by
  simp only [supH, ByteArray.size_append, leS_sz]; rfl
/-- Half of the block. -/
def supP (n0 n1 n2 n3 : Int) : ByteArray := supH n0 n1 n2 n3 ++ zeros 7
theorem supP_size (n0 n1 n2 n3 : Int) : (supP n0 n1 n2 n3).size = 32 := by
  simp only [supP, ByteArray.size_append, supH_size]; rfl
def supB (n0 n1 n2 n3 : Int) : ByteArray := supP n0 n1 n2 n3 ++ supP n0 n1 n2 n3
set_option maxHeartbeats 2000000 in
set_option maxRecDepth 100000 in
theorem l10Encode_any (n0 n1 n2 n3 : Int) (w : World) :
    Calls Try.prog 123 #[.agg #[.int .i64 n0, .int .i64 n1, .int .i64 n2, .int .i64 n3]] w (GivesB (.string (supB n0 n1 n2 n3)) w) := by
  have Hb0 : Hid (Below w.heap.size w (w.alloc (.cells #[.int .i64 n0, .int .i64 n1, .int .i64 n2, .int .i64 n3] 39))) := Lib.hid ((Below.refl _ w).alloc (Nat.le_refl _) _)
  have C0 : Hid ((w.alloc (.cells #[.int .i64 n0, .int .i64 n1, .int .i64 n2, .int .i64 n3] 39)).heap[w.heap.size]? = some (.cells #[.int .i64 n0, .int .i64 n1, .int .i64 n2, .int .i64 n3] 39 (0, 0))) := Lib.hid (heap_alloc_new w _)
  have Lt : Hid (w.heap.size < (w.alloc (.cells #[.int .i64 n0, .int .i64 n1, .int .i64 n2, .int .i64 n3] 39)).heap.size) := Lib.hid (by simp)
  have HA := Lib.hid (supH_size n0 n1 n2 n3)
  have HP := Lib.hid (supP_size n0 n1 n2 n3)
  have s1 : (leS 1 1).size = 1 := leS_sz _ _
  have s2 : (leS n0 2).size = 2 := leS_sz _ _
  have s3 : (leS n1 2).size = 2 := leS_sz _ _
  have s4 : (leS n2 8).size = 8 := leS_sz _ _
  have s5 : (leS n3 8).size = 8 := leS_sz _ _
  have hB : Hid (supB n0 n1 n2 n3 = supP n0 n1 n2 n3 ++ supP n0 n1 n2 n3) := Lib.hid rfl
  have hP : Hid (supP n0 n1 n2 n3 = supH n0 n1 n2 n3 ++ zeros 7) := Lib.hid rfl
  have hH : Hid (supH n0 n1 n2 n3 = (((((⟨#[65, 82, 82, 83]⟩ : ByteArray) ++ leS 1 1) ++ leS n0 2) ++ leS n1 2) ++ leS n2 8) ++ leS n3 8) := Lib.hid rfl
  have f1 : ∀ W, Calls Try.prog 188 #[.int .i64 1, .int .i64 1] W fun e w' => e = .returned (.string (leS 1 1)) ∧ Below W.heap.size W w' := fun W => l01Bytes_any 1 1 (by omega) (by omega) W
  have f2 : ∀ W, Calls Try.prog 188 #[.int .i64 n0, .int .i64 2] W fun e w' => e = .returned (.string (leS n0 2)) ∧ Below W.heap.size W w' := fun W => l01Bytes_any n0 2 (by omega) (by omega) W
  have f3 : ∀ W, Calls Try.prog 188 #[.int .i64 n1, .int .i64 2] W fun e w' => e = .returned (.string (leS n1 2)) ∧ Below W.heap.size W w' := fun W => l01Bytes_any n1 2 (by omega) (by omega) W
  have f4 : ∀ W, Calls Try.prog 188 #[.int .i64 n2, .int .i64 8] W fun e w' => e = .returned (.string (leS n2 8)) ∧ Below W.heap.size W w' := fun W => l01Bytes_any n2 8 (by omega) (by omega) W
  have f5 : ∀ W, Calls Try.prog 188 #[.int .i64 n3, .int .i64 8] W fun e w' => e = .returned (.string (leS n3 8)) ∧ Below W.heap.size W w' := fun W => l01Bytes_any n3 8 (by omega) (by omega) W
  generalize leS 1 1 = b1 at *
  generalize leS n0 2 = b2 at *
  generalize leS n1 2 = b3 at *
  generalize leS n2 8 = b4 at *
  generalize leS n3 8 = b5 at *
  generalize supB n0 n1 n2 n3 = SB at *
  generalize supP n0 n1 n2 n3 = SP at *
  generalize supH n0 n1 n2 n3 = SH at *
  have F1 := Lib.hid f1; have F2 := Lib.hid f2; have F3 := Lib.hid f3; have F4 := Lib.hid f4; have F5 := Lib.hid f5
  clear f1 f2 f3 f4 f5
  go_enter Try.func123, Try.ntmps123
  go_wp2_with fail
  generalize (w.alloc (.cells #[.int .i64 n0, .int .i64 n1, .int .i64 n2, .int .i64 n3] 39)) = w0 at *
  have HSt : Hid (∀ W, Below w0.heap.size w0 W → W.cell? ⟨w.heap.size, 0, none⟩ = some (.int .i64 n0) ∧ W.cell? ⟨w.heap.size, 1, none⟩ = some (.int .i64 n1) ∧ W.cell? ⟨w.heap.size, 2, none⟩ = some (.int .i64 n2) ∧ W.cell? ⟨w.heap.size, 3, none⟩ = some (.int .i64 n3)) := Lib.hid (fun W hW => by
    have hr := (hW.block _ Lt.out).trans C0.out
    exact ⟨by rw [cell_of_row _ _ _ _ _ _ hr]; rfl, by rw [cell_of_row _ _ _ _ _ _ hr]; rfl, by rw [cell_of_row _ _ _ _ _ _ hr]; rfl, by rw [cell_of_row _ _ _ _ _ _ hr]; rfl⟩)
  have HD : Hid (Below w0.heap.size w0 w0.drew) := Lib.hid (Below.refl _ _).drew
  go_region_held3 (fun W => W.cell? ⟨w.heap.size, 0, none⟩ = some (.int .i64 n0) ∧ W.cell? ⟨w.heap.size, 1, none⟩ = some (.int .i64 n1) ∧ W.cell? ⟨w.heap.size, 2, none⟩ = some (.int .i64 n2) ∧ W.cell? ⟨w.heap.size, 3, none⟩ = some (.int .i64 n3)) (exact HSt.out _ (by first | exact kb5 | exact kb4 | exact kb3 | exact kb2 | exact kb1 | exact HD.out))
    ((first | (go_at_call 188; go_fit (F1.out _); rintro e u1 ⟨rfl, g1⟩; have kb1 : Below w0.heap.size w0 u1 := HD.out.trans (g1.mono HD.out.size)) | (go_at_call 188; go_fit (F2.out _); rintro e u2 ⟨rfl, g2⟩; have kb2 : Below w0.heap.size w0 u2 := kb1.trans (g2.mono kb1.size)) | (go_at_call 188; go_fit (F3.out _); rintro e u3 ⟨rfl, g3⟩; have kb3 : Below w0.heap.size w0 u3 := kb2.trans (g3.mono kb2.size)) | (go_at_call 188; go_fit (F4.out _); rintro e u4 ⟨rfl, g4⟩; have kb4 : Below w0.heap.size w0 u4 := kb3.trans (g4.mono kb3.size)) | (go_at_call 188; go_fit (F5.out _); rintro e u5 ⟨rfl, g5⟩; have kb5 : Below w0.heap.size w0 u5 := kb4.trans (g5.mono kb4.size))))
  try simp only [Exit.then]
  have Hb5 : Hid (Below w.heap.size w u5) := Lib.hid (Hb0.out.trans (kb5.mono Hb0.out.size))
  have hsz := HA.out
  have hszp := HP.out
  rw [← hH.out]
  go_wp2_with fail
  have hp : ∀ W, Calls Try.prog 189 #[.string SH, .int .i64 32] W fun e w' => e = .returned (.string SP) ∧ Below W.heap.size W w' := fun W => by
    have := l01Pad_any SH 32 (by omega) (by omega) W
    rw [hsz] at this
    rw [hP.out]
    exact this
  refine (hp _).mono ?_
  clear hp
  rintro e u6 ⟨rfl, g6⟩
  go_wp2_with fail
  go_ret
  exact ⟨by rw [hB.out]; rfl, Hb5.out.trans (g6.mono Hb5.out.size)⟩
/-- The text of a superblock, empty where it is not valid. -/
def enOf (n0 n1 n2 n3 : Int) : ByteArray := if supOk n0 n1 n2 n3 then supB n0 n1 n2 n3 else ⟨#[]⟩
end Go.Proofs.Ytlickjmdlooapaa
