/- The statement of the law FnExactDecodeHeap: whatever the input, the program's function answers as the model's, every field; the answer owns its memory, and the input reads as it did. Its conditions are the given statement's own; nothing is added. -/
import Derived.Test.YtabnglimchjgpaaJf
import Derived.Test.YtabnglimchjgpaaDnS
import Derived.Test.YtabnglimchjgpaaFrmV
import Derived.Test.YtabnglimchjgpaaAcc
import Derived.ProofKit
import Derived.OpenShut
import Derived.ShutString
import Derived.ChangeOld
import Derived.Below
import Derived.Deep.DeepFit
import Derived.Deep.WholeRow
import Derived.Deep.RegionHeld3
namespace Go.Proofs.Ytabnglimchjgpaa.fnExactDecodeHeap
open Go.ChangeShapes Go.WideShapes Go.ChangeAt Go.RowKit
open Go.ChangeMaps (open_string shut_string)
set_option linter.unusedVariables false
set_option maxHeartbeats 16000000 in
set_option maxRecDepth 100000 in
theorem walk (w : World) (a0 : ByteArray) (h0 : a0.size ≤ maxLen) :
    Calls Try.prog 10 #[.string a0] w (GivesB (.bool true) w) := by
  by_cases hs0 : 1048576 < a0.size
  · have hb : (1048576 : Int) < (a0.size : Int) := by omega
    go_enter Try.func10, Try.ntmps10
    go_wp2_with fail
    go_ret
    exact ⟨rfl, Below.refl _ _⟩
  have hz0 : a0.size ≤ 1048576 := by omega
  have hbig0 : ¬ (1048576 : Int) < (a0.size : Int) := by omega
  have S0 := Lib.hid (fun (W : World) => specDecodeHeap_any hz0 (w := W))
  have P0 := Lib.hid (fun (W : World) => implDecodeHeap_any hz0 (w := W))
  have DK : Hid ((∀ x ∈ deL a0, x.size ≤ maxLen) ∧ (deL a0).length ≤ 1300000) := Lib.hid (de_ok hz0)
  generalize deL a0 = D at *
  generalize deO a0 = r1 at *
  have eqa : ∀ x : Int, (x == x) = true := by simp
  have eqb : ∀ x : Bool, (x == x) = true := by simp
  have HB0 : Hid (Below w.heap.size w w) := Lib.hid (Below.refl _ _)
  have SZ0 : Hid (w.heap.size ≤ w.heap.size) := Lib.hid (Nat.le_refl _)
  go_enter Try.func10, Try.ntmps10
  have ID := Lib.hid DK.out.1
  go_wp2_with fail
  refine (S0.out w).mono ?_
  rintro e w1 ⟨vz, rfl, oa, g⟩
  have G1 := Lib.hid g; have SZ1 : Hid (w.heap.size ≤ w1.heap.size) := Lib.hid g.size; clear g
  have HB1 : Hid (Below w.heap.size w w1) := Lib.hid (HB0.out.trans (G1.out.mono HB0.out.size))
  obtain ⟨ZA, Zc, rfl⟩ := oa.op
  simp only [mkB2]
  have OZ_1 : Hid (OT w1 w.heap.size (.slice ZA D.length Zc) D) := Lib.hid oa
  have KIZ : Hid (Wi w.heap.size w1.heap.size (.slice ZA D.length Zc)) := Lib.hid (own_wi oa); clear oa
  have G2 : Hid (Below w1.heap.size w1 (w1.alloc (.cells #[.slice ZA D.length Zc] 27))) := Lib.hid ((Below.refl _ _).alloc (Nat.le_refl _) _)
  have SZ2 : Hid (w1.heap.size + 1 ≤ (w1.alloc (.cells #[.slice ZA D.length Zc] 27)).heap.size) := Lib.hid (by simp)
  have OZ_2 : Hid (OT (w1.alloc (.cells #[.slice ZA D.length Zc] 27)) w.heap.size (.slice ZA D.length Zc) D) := Lib.hid (own_bel OZ_1.out G2.out)
  have HB2 : Hid (Below w.heap.size w (w1.alloc (.cells #[.slice ZA D.length Zc] 27))) := Lib.hid (HB1.out.trans (G2.out.mono HB1.out.size))
  have KZ_2 : Hid ((w1.alloc (.cells #[.slice ZA D.length Zc] 27)).heap[w1.heap.size]? = some (.cells #[.slice ZA D.length Zc] 27 (0, 0))) := Lib.hid (heap_alloc_new w1 _)
  have qcKZ : (w1.alloc (.cells #[.slice ZA D.length Zc] 27)).cell? ⟨w1.heap.size, 0, none⟩ = some (.slice ZA D.length Zc) := by rw [cell_of_row _ _ _ _ _ _ KZ_2.out]; rfl
  go_wp2_with (first | (refine wpList_load_row rfl 27 (.tmp 3) rfl _ rfl 27 _ (0, 0) _ KZ_2.out Try.underlying27 rfl (by kernel_rfl) ?_))
  clear qcKZ
  generalize (w1.alloc (.cells #[.slice ZA D.length Zc] 27)) = w2 at *
  refine (P0.out w2).mono ?_
  rintro e w3 ⟨vz, rfl, oa, g⟩
  have G3 := Lib.hid g; have SZ3 : Hid (w2.heap.size ≤ w3.heap.size) := Lib.hid g.size; clear g
  have OZ_3 : Hid (OT w3 w.heap.size (.slice ZA D.length Zc) D) := Lib.hid (own_bel OZ_2.out G3.out)
  have KZ_3 : Hid (w3.heap[w1.heap.size]? = some (.cells #[.slice ZA D.length Zc] 27 (0, 0))) := Lib.hid ((G3.out.block _ (by have s0 := SZ0.out; have s1 := SZ1.out; have s2 := SZ2.out; omega)).trans KZ_2.out)
  have HB3 : Hid (Below w.heap.size w w3) := Lib.hid (HB2.out.trans (G3.out.mono HB2.out.size))
  obtain ⟨YA, Yc, rfl⟩ := oa.op
  simp only [mkB2]
  have OY_3 : Hid (OT w3 w2.heap.size (.slice YA D.length Yc) D) := Lib.hid oa
  have KIY : Hid (Wi w2.heap.size w3.heap.size (.slice YA D.length Yc)) := Lib.hid (own_wi oa); clear oa
  have G4 : Hid (Below w3.heap.size w3 (w3.alloc (.cells #[.slice YA D.length Yc] 27))) := Lib.hid ((Below.refl _ _).alloc (Nat.le_refl _) _)
  have SZ4 : Hid (w3.heap.size + 1 ≤ (w3.alloc (.cells #[.slice YA D.length Yc] 27)).heap.size) := Lib.hid (by simp)
  have OZ_4 : Hid (OT (w3.alloc (.cells #[.slice YA D.length Yc] 27)) w.heap.size (.slice ZA D.length Zc) D) := Lib.hid (own_bel OZ_3.out G4.out)
  have KZ_4 : Hid ((w3.alloc (.cells #[.slice YA D.length Yc] 27)).heap[w1.heap.size]? = some (.cells #[.slice ZA D.length Zc] 27 (0, 0))) := Lib.hid ((G4.out.block _ (by have s0 := SZ0.out; have s1 := SZ1.out; have s2 := SZ2.out; have s3 := SZ3.out; omega)).trans KZ_3.out)
  have OY_4 : Hid (OT (w3.alloc (.cells #[.slice YA D.length Yc] 27)) w2.heap.size (.slice YA D.length Yc) D) := Lib.hid (own_bel OY_3.out G4.out)
  have HB4 : Hid (Below w.heap.size w (w3.alloc (.cells #[.slice YA D.length Yc] 27))) := Lib.hid (HB3.out.trans (G4.out.mono HB3.out.size))
  have KY_4 : Hid ((w3.alloc (.cells #[.slice YA D.length Yc] 27)).heap[w3.heap.size]? = some (.cells #[.slice YA D.length Yc] 27 (0, 0))) := Lib.hid (heap_alloc_new w3 _)
  have qcKZ : (w3.alloc (.cells #[.slice YA D.length Yc] 27)).cell? ⟨w1.heap.size, 0, none⟩ = some (.slice ZA D.length Zc) := by rw [cell_of_row _ _ _ _ _ _ KZ_4.out]; rfl
  have qcKY : (w3.alloc (.cells #[.slice YA D.length Yc] 27)).cell? ⟨w3.heap.size, 0, none⟩ = some (.slice YA D.length Yc) := by rw [cell_of_row _ _ _ _ _ _ KY_4.out]; rfl
  go_wp2_with (first | (refine wpList_load_row rfl 27 (.tmp 3) rfl _ rfl 27 _ (0, 0) _ KZ_4.out Try.underlying27 rfl (by kernel_rfl) ?_) | (refine wpList_load_row rfl 27 (.tmp 5) rfl _ rfl 27 _ (0, 0) _ KY_4.out Try.underlying27 rfl (by kernel_rfl) ?_))
  clear qcKZ qcKY
  generalize (w3.alloc (.cells #[.slice YA D.length Yc] 27)) = w4 at *
  refine (eqHp_any (OY_4.out.rit ID.out) (OZ_4.out.rit ID.out) (Nat.le_refl _)).mono ?_
  rintro e w5 ⟨rfl, g⟩
  have G5 := Lib.hid g; have SZ5 : Hid (w4.heap.size ≤ w5.heap.size) := Lib.hid g.size; clear g
  have OZ_5 : Hid (OT w5 w.heap.size (.slice ZA D.length Zc) D) := Lib.hid (own_bel OZ_4.out G5.out)
  have KZ_5 : Hid (w5.heap[w1.heap.size]? = some (.cells #[.slice ZA D.length Zc] 27 (0, 0))) := Lib.hid ((G5.out.block _ (by have s0 := SZ0.out; have s1 := SZ1.out; have s2 := SZ2.out; have s3 := SZ3.out; have s4 := SZ4.out; omega)).trans KZ_4.out)
  have OY_5 : Hid (OT w5 w2.heap.size (.slice YA D.length Yc) D) := Lib.hid (own_bel OY_4.out G5.out)
  have KY_5 : Hid (w5.heap[w3.heap.size]? = some (.cells #[.slice YA D.length Yc] 27 (0, 0))) := Lib.hid ((G5.out.block _ (by have s0 := SZ0.out; have s1 := SZ1.out; have s2 := SZ2.out; have s3 := SZ3.out; have s4 := SZ4.out; omega)).trans KY_4.out)
  have HB5 : Hid (Below w.heap.size w w5) := Lib.hid (HB4.out.trans (G5.out.mono HB4.out.size))
  have qcKZ : w5.cell? ⟨w1.heap.size, 0, none⟩ = some (.slice ZA D.length Zc) := by rw [cell_of_row _ _ _ _ _ _ KZ_5.out]; rfl
  have qcKY : w5.cell? ⟨w3.heap.size, 0, none⟩ = some (.slice YA D.length Yc) := by rw [cell_of_row _ _ _ _ _ _ KY_5.out]; rfl
  go_wp2_with (first | (refine wpList_load_row rfl 27 (.tmp 3) rfl _ rfl 27 _ (0, 0) _ KZ_5.out Try.underlying27 rfl (by kernel_rfl) ?_) | (refine wpList_load_row rfl 27 (.tmp 5) rfl _ rfl 27 _ (0, 0) _ KY_5.out Try.underlying27 rfl (by kernel_rfl) ?_))
  clear qcKZ qcKY
  refine (markHpO_any OY_5.out 1 (by omega) (by have h1 := DK.out.2; omega)).mono ?_
  rintro e w6 ⟨rfl, oa, gr⟩
  have Mv6 : Hid (Mv w2.heap.size w3.heap.size w5 w6) := Lib.hid (Mv.grown gr KIY.out)
  have SZ6 : Hid (w5.heap.size ≤ w6.heap.size) := Lib.hid Mv6.out.2.2.2.1
  have OZ_6 : Hid (OT w6 w.heap.size (.slice ZA D.length Zc) D) := Lib.hid (own_mv OZ_5.out Mv6.out (fun g hg => by have := KIZ.out g hg; have s0 := SZ0.out; have s1 := SZ1.out; have s2 := SZ2.out; have s3 := SZ3.out; have s4 := SZ4.out; have s5 := SZ5.out; have s6 := SZ6.out; omega))
  have KZ_6 : Hid (w6.heap[w1.heap.size]? = some (.cells #[.slice ZA D.length Zc] 27 (0, 0))) := Lib.hid ((Mv6.out.2.2.2.2 _ (by have s0 := SZ0.out; have s1 := SZ1.out; have s2 := SZ2.out; have s3 := SZ3.out; have s4 := SZ4.out; have s5 := SZ5.out; omega) (by have s0 := SZ0.out; have s1 := SZ1.out; have s2 := SZ2.out; have s3 := SZ3.out; have s4 := SZ4.out; have s5 := SZ5.out; have s6 := SZ6.out; omega)).trans KZ_5.out)
  have KY_6 : Hid (w6.heap[w3.heap.size]? = some (.cells #[.slice YA D.length Yc] 27 (0, 0))) := Lib.hid ((Mv6.out.2.2.2.2 _ (by have s0 := SZ0.out; have s1 := SZ1.out; have s2 := SZ2.out; have s3 := SZ3.out; have s4 := SZ4.out; have s5 := SZ5.out; omega) (by have s0 := SZ0.out; have s1 := SZ1.out; have s2 := SZ2.out; have s3 := SZ3.out; have s4 := SZ4.out; have s5 := SZ5.out; have s6 := SZ6.out; omega)).trans KY_5.out)
  have HB6 : Hid (Below w.heap.size w w6) := Lib.hid (Mv6.out.below HB5.out (by have s0 := SZ0.out; have s1 := SZ1.out; have s2 := SZ2.out; have s3 := SZ3.out; have s4 := SZ4.out; have s5 := SZ5.out; have s6 := SZ6.out; omega) HB5.out.size)
  have OY_6 : Hid (OT w6 w2.heap.size (.slice YA D.length Yc) (marksT 1 D.length)) := Lib.hid oa; clear oa gr
  have neg2 : ¬ (((1 + D.length : Nat) : Int) < 0) := by omega
  have qcKZ : w6.cell? ⟨w1.heap.size, 0, none⟩ = some (.slice ZA D.length Zc) := by rw [cell_of_row _ _ _ _ _ _ KZ_6.out]; rfl
  have qcKY : w6.cell? ⟨w3.heap.size, 0, none⟩ = some (.slice YA D.length Yc) := by rw [cell_of_row _ _ _ _ _ _ KY_6.out]; rfl
  go_wp2_with (first | (refine wpList_load_row rfl 27 (.tmp 3) rfl _ rfl 27 _ (0, 0) _ KZ_6.out Try.underlying27 rfl (by kernel_rfl) ?_) | (refine wpList_load_row rfl 27 (.tmp 5) rfl _ rfl 27 _ (0, 0) _ KY_6.out Try.underlying27 rfl (by kernel_rfl) ?_))
  clear qcKZ qcKY
  refine (heldHp_any 1 OY_6.out (by omega) (by have h1 := DK.out.2; omega)).mono ?_
  rintro e w7 ⟨rfl, g⟩
  have G7 := Lib.hid g; have SZ7 : Hid (w6.heap.size ≤ w7.heap.size) := Lib.hid g.size; clear g
  have OZ_7 : Hid (OT w7 w.heap.size (.slice ZA D.length Zc) D) := Lib.hid (own_bel OZ_6.out G7.out)
  have KZ_7 : Hid (w7.heap[w1.heap.size]? = some (.cells #[.slice ZA D.length Zc] 27 (0, 0))) := Lib.hid ((G7.out.block _ (by have s0 := SZ0.out; have s1 := SZ1.out; have s2 := SZ2.out; have s3 := SZ3.out; have s4 := SZ4.out; have s5 := SZ5.out; have s6 := SZ6.out; omega)).trans KZ_6.out)
  have KY_7 : Hid (w7.heap[w3.heap.size]? = some (.cells #[.slice YA D.length Yc] 27 (0, 0))) := Lib.hid ((G7.out.block _ (by have s0 := SZ0.out; have s1 := SZ1.out; have s2 := SZ2.out; have s3 := SZ3.out; have s4 := SZ4.out; have s5 := SZ5.out; have s6 := SZ6.out; omega)).trans KY_6.out)
  have OY_7 : Hid (OT w7 w2.heap.size (.slice YA D.length Yc) (marksT 1 D.length)) := Lib.hid (own_bel OY_6.out G7.out)
  have HB7 : Hid (Below w.heap.size w w7) := Lib.hid (HB6.out.trans (G7.out.mono HB6.out.size))
  have qcKZ : w7.cell? ⟨w1.heap.size, 0, none⟩ = some (.slice ZA D.length Zc) := by rw [cell_of_row _ _ _ _ _ _ KZ_7.out]; rfl
  have qcKY : w7.cell? ⟨w3.heap.size, 0, none⟩ = some (.slice YA D.length Yc) := by rw [cell_of_row _ _ _ _ _ _ KY_7.out]; rfl
  go_wp2_with (first | (refine wpList_load_row rfl 27 (.tmp 3) rfl _ rfl 27 _ (0, 0) _ KZ_7.out Try.underlying27 rfl (by kernel_rfl) ?_) | (refine wpList_load_row rfl 27 (.tmp 5) rfl _ rfl 27 _ (0, 0) _ KY_7.out Try.underlying27 rfl (by kernel_rfl) ?_))
  clear qcKZ qcKY
  refine (P0.out w7).mono ?_
  rintro e w8 ⟨vz, rfl, oa, g⟩
  have G8 := Lib.hid g; have SZ8 : Hid (w7.heap.size ≤ w8.heap.size) := Lib.hid g.size; clear g
  have OZ_8 : Hid (OT w8 w.heap.size (.slice ZA D.length Zc) D) := Lib.hid (own_bel OZ_7.out G8.out)
  have KZ_8 : Hid (w8.heap[w1.heap.size]? = some (.cells #[.slice ZA D.length Zc] 27 (0, 0))) := Lib.hid ((G8.out.block _ (by have s0 := SZ0.out; have s1 := SZ1.out; have s2 := SZ2.out; have s3 := SZ3.out; have s4 := SZ4.out; have s5 := SZ5.out; have s6 := SZ6.out; have s7 := SZ7.out; omega)).trans KZ_7.out)
  have KY_8 : Hid (w8.heap[w3.heap.size]? = some (.cells #[.slice YA D.length Yc] 27 (0, 0))) := Lib.hid ((G8.out.block _ (by have s0 := SZ0.out; have s1 := SZ1.out; have s2 := SZ2.out; have s3 := SZ3.out; have s4 := SZ4.out; have s5 := SZ5.out; have s6 := SZ6.out; have s7 := SZ7.out; omega)).trans KY_7.out)
  have OY_8 : Hid (OT w8 w2.heap.size (.slice YA D.length Yc) (marksT 1 D.length)) := Lib.hid (own_bel OY_7.out G8.out)
  have HB8 : Hid (Below w.heap.size w w8) := Lib.hid (HB7.out.trans (G8.out.mono HB7.out.size))
  obtain ⟨CA, Cc, rfl⟩ := oa.op
  simp only [mkB2]
  have OC_8 : Hid (OT w8 w7.heap.size (.slice CA D.length Cc) D) := Lib.hid oa
  have KIC : Hid (Wi w7.heap.size w8.heap.size (.slice CA D.length Cc)) := Lib.hid (own_wi oa); clear oa
  have G9 : Hid (Below w8.heap.size w8 (w8.alloc (.cells #[.slice CA D.length Cc] 27))) := Lib.hid ((Below.refl _ _).alloc (Nat.le_refl _) _)
  have SZ9 : Hid (w8.heap.size + 1 ≤ (w8.alloc (.cells #[.slice CA D.length Cc] 27)).heap.size) := Lib.hid (by simp)
  have OZ_9 : Hid (OT (w8.alloc (.cells #[.slice CA D.length Cc] 27)) w.heap.size (.slice ZA D.length Zc) D) := Lib.hid (own_bel OZ_8.out G9.out)
  have KZ_9 : Hid ((w8.alloc (.cells #[.slice CA D.length Cc] 27)).heap[w1.heap.size]? = some (.cells #[.slice ZA D.length Zc] 27 (0, 0))) := Lib.hid ((G9.out.block _ (by have s0 := SZ0.out; have s1 := SZ1.out; have s2 := SZ2.out; have s3 := SZ3.out; have s4 := SZ4.out; have s5 := SZ5.out; have s6 := SZ6.out; have s7 := SZ7.out; have s8 := SZ8.out; omega)).trans KZ_8.out)
  have KY_9 : Hid ((w8.alloc (.cells #[.slice CA D.length Cc] 27)).heap[w3.heap.size]? = some (.cells #[.slice YA D.length Yc] 27 (0, 0))) := Lib.hid ((G9.out.block _ (by have s0 := SZ0.out; have s1 := SZ1.out; have s2 := SZ2.out; have s3 := SZ3.out; have s4 := SZ4.out; have s5 := SZ5.out; have s6 := SZ6.out; have s7 := SZ7.out; have s8 := SZ8.out; omega)).trans KY_8.out)
  have OY_9 : Hid (OT (w8.alloc (.cells #[.slice CA D.length Cc] 27)) w2.heap.size (.slice YA D.length Yc) (marksT 1 D.length)) := Lib.hid (own_bel OY_8.out G9.out)
  have OC_9 : Hid (OT (w8.alloc (.cells #[.slice CA D.length Cc] 27)) w7.heap.size (.slice CA D.length Cc) D) := Lib.hid (own_bel OC_8.out G9.out)
  have HB9 : Hid (Below w.heap.size w (w8.alloc (.cells #[.slice CA D.length Cc] 27))) := Lib.hid (HB8.out.trans (G9.out.mono HB8.out.size))
  have KC_9 : Hid ((w8.alloc (.cells #[.slice CA D.length Cc] 27)).heap[w8.heap.size]? = some (.cells #[.slice CA D.length Cc] 27 (0, 0))) := Lib.hid (heap_alloc_new w8 _)
  have qcKZ : (w8.alloc (.cells #[.slice CA D.length Cc] 27)).cell? ⟨w1.heap.size, 0, none⟩ = some (.slice ZA D.length Zc) := by rw [cell_of_row _ _ _ _ _ _ KZ_9.out]; rfl
  have qcKY : (w8.alloc (.cells #[.slice CA D.length Cc] 27)).cell? ⟨w3.heap.size, 0, none⟩ = some (.slice YA D.length Yc) := by rw [cell_of_row _ _ _ _ _ _ KY_9.out]; rfl
  have qcKC : (w8.alloc (.cells #[.slice CA D.length Cc] 27)).cell? ⟨w8.heap.size, 0, none⟩ = some (.slice CA D.length Cc) := by rw [cell_of_row _ _ _ _ _ _ KC_9.out]; rfl
  go_wp2_with (first | (refine wpList_load_row rfl 27 (.tmp 3) rfl _ rfl 27 _ (0, 0) _ KZ_9.out Try.underlying27 rfl (by kernel_rfl) ?_) | (refine wpList_load_row rfl 27 (.tmp 5) rfl _ rfl 27 _ (0, 0) _ KY_9.out Try.underlying27 rfl (by kernel_rfl) ?_) | (refine wpList_load_row rfl 27 (.tmp 9) rfl _ rfl 27 _ (0, 0) _ KC_9.out Try.underlying27 rfl (by kernel_rfl) ?_))
  clear qcKZ qcKY qcKC
  generalize (w8.alloc (.cells #[.slice CA D.length Cc] 27)) = w9 at *
  refine (eqHp_any (OC_9.out.rit ID.out) (OZ_9.out.rit ID.out) (Nat.le_refl _)).mono ?_
  rintro e w10 ⟨rfl, g⟩
  have G10 := Lib.hid g; have SZ10 : Hid (w9.heap.size ≤ w10.heap.size) := Lib.hid g.size; clear g
  have OZ_10 : Hid (OT w10 w.heap.size (.slice ZA D.length Zc) D) := Lib.hid (own_bel OZ_9.out G10.out)
  have KZ_10 : Hid (w10.heap[w1.heap.size]? = some (.cells #[.slice ZA D.length Zc] 27 (0, 0))) := Lib.hid ((G10.out.block _ (by have s0 := SZ0.out; have s1 := SZ1.out; have s2 := SZ2.out; have s3 := SZ3.out; have s4 := SZ4.out; have s5 := SZ5.out; have s6 := SZ6.out; have s7 := SZ7.out; have s8 := SZ8.out; have s9 := SZ9.out; omega)).trans KZ_9.out)
  have KY_10 : Hid (w10.heap[w3.heap.size]? = some (.cells #[.slice YA D.length Yc] 27 (0, 0))) := Lib.hid ((G10.out.block _ (by have s0 := SZ0.out; have s1 := SZ1.out; have s2 := SZ2.out; have s3 := SZ3.out; have s4 := SZ4.out; have s5 := SZ5.out; have s6 := SZ6.out; have s7 := SZ7.out; have s8 := SZ8.out; have s9 := SZ9.out; omega)).trans KY_9.out)
  have OY_10 : Hid (OT w10 w2.heap.size (.slice YA D.length Yc) (marksT 1 D.length)) := Lib.hid (own_bel OY_9.out G10.out)
  have OC_10 : Hid (OT w10 w7.heap.size (.slice CA D.length Cc) D) := Lib.hid (own_bel OC_9.out G10.out)
  have KC_10 : Hid (w10.heap[w8.heap.size]? = some (.cells #[.slice CA D.length Cc] 27 (0, 0))) := Lib.hid ((G10.out.block _ (by have s0 := SZ0.out; have s1 := SZ1.out; have s2 := SZ2.out; have s3 := SZ3.out; have s4 := SZ4.out; have s5 := SZ5.out; have s6 := SZ6.out; have s7 := SZ7.out; have s8 := SZ8.out; have s9 := SZ9.out; omega)).trans KC_9.out)
  have HB10 : Hid (Below w.heap.size w w10) := Lib.hid (HB9.out.trans (G10.out.mono HB9.out.size))
  have qcKZ : w10.cell? ⟨w1.heap.size, 0, none⟩ = some (.slice ZA D.length Zc) := by rw [cell_of_row _ _ _ _ _ _ KZ_10.out]; rfl
  have qcKY : w10.cell? ⟨w3.heap.size, 0, none⟩ = some (.slice YA D.length Yc) := by rw [cell_of_row _ _ _ _ _ _ KY_10.out]; rfl
  have qcKC : w10.cell? ⟨w8.heap.size, 0, none⟩ = some (.slice CA D.length Cc) := by rw [cell_of_row _ _ _ _ _ _ KC_10.out]; rfl
  go_wp2_with (first | (refine wpList_load_row rfl 27 (.tmp 3) rfl _ rfl 27 _ (0, 0) _ KZ_10.out Try.underlying27 rfl (by kernel_rfl) ?_) | (refine wpList_load_row rfl 27 (.tmp 5) rfl _ rfl 27 _ (0, 0) _ KY_10.out Try.underlying27 rfl (by kernel_rfl) ?_) | (refine wpList_load_row rfl 27 (.tmp 9) rfl _ rfl 27 _ (0, 0) _ KC_10.out Try.underlying27 rfl (by kernel_rfl) ?_))
  clear qcKZ qcKY qcKC
  refine (heldHp_any 1 OY_10.out (by omega) (by have h1 := DK.out.2; omega)).mono ?_
  rintro e w11 ⟨rfl, g⟩
  have G11 := Lib.hid g; have SZ11 : Hid (w10.heap.size ≤ w11.heap.size) := Lib.hid g.size; clear g
  have OZ_11 : Hid (OT w11 w.heap.size (.slice ZA D.length Zc) D) := Lib.hid (own_bel OZ_10.out G11.out)
  have KZ_11 : Hid (w11.heap[w1.heap.size]? = some (.cells #[.slice ZA D.length Zc] 27 (0, 0))) := Lib.hid ((G11.out.block _ (by have s0 := SZ0.out; have s1 := SZ1.out; have s2 := SZ2.out; have s3 := SZ3.out; have s4 := SZ4.out; have s5 := SZ5.out; have s6 := SZ6.out; have s7 := SZ7.out; have s8 := SZ8.out; have s9 := SZ9.out; have s10 := SZ10.out; omega)).trans KZ_10.out)
  have KY_11 : Hid (w11.heap[w3.heap.size]? = some (.cells #[.slice YA D.length Yc] 27 (0, 0))) := Lib.hid ((G11.out.block _ (by have s0 := SZ0.out; have s1 := SZ1.out; have s2 := SZ2.out; have s3 := SZ3.out; have s4 := SZ4.out; have s5 := SZ5.out; have s6 := SZ6.out; have s7 := SZ7.out; have s8 := SZ8.out; have s9 := SZ9.out; have s10 := SZ10.out; omega)).trans KY_10.out)
  have OY_11 : Hid (OT w11 w2.heap.size (.slice YA D.length Yc) (marksT 1 D.length)) := Lib.hid (own_bel OY_10.out G11.out)
  have OC_11 : Hid (OT w11 w7.heap.size (.slice CA D.length Cc) D) := Lib.hid (own_bel OC_10.out G11.out)
  have KC_11 : Hid (w11.heap[w8.heap.size]? = some (.cells #[.slice CA D.length Cc] 27 (0, 0))) := Lib.hid ((G11.out.block _ (by have s0 := SZ0.out; have s1 := SZ1.out; have s2 := SZ2.out; have s3 := SZ3.out; have s4 := SZ4.out; have s5 := SZ5.out; have s6 := SZ6.out; have s7 := SZ7.out; have s8 := SZ8.out; have s9 := SZ9.out; have s10 := SZ10.out; omega)).trans KC_10.out)
  have HB11 : Hid (Below w.heap.size w w11) := Lib.hid (HB10.out.trans (G11.out.mono HB10.out.size))
  have qcKZ : w11.cell? ⟨w1.heap.size, 0, none⟩ = some (.slice ZA D.length Zc) := by rw [cell_of_row _ _ _ _ _ _ KZ_11.out]; rfl
  have qcKY : w11.cell? ⟨w3.heap.size, 0, none⟩ = some (.slice YA D.length Yc) := by rw [cell_of_row _ _ _ _ _ _ KY_11.out]; rfl
  have qcKC : w11.cell? ⟨w8.heap.size, 0, none⟩ = some (.slice CA D.length Cc) := by rw [cell_of_row _ _ _ _ _ _ KC_11.out]; rfl
  go_wp2_with (first | (refine wpList_load_row rfl 27 (.tmp 3) rfl _ rfl 27 _ (0, 0) _ KZ_11.out Try.underlying27 rfl (by kernel_rfl) ?_) | (refine wpList_load_row rfl 27 (.tmp 5) rfl _ rfl 27 _ (0, 0) _ KY_11.out Try.underlying27 rfl (by kernel_rfl) ?_) | (refine wpList_load_row rfl 27 (.tmp 9) rfl _ rfl 27 _ (0, 0) _ KC_11.out Try.underlying27 rfl (by kernel_rfl) ?_))
  clear qcKZ qcKY qcKC
  go_ret
  exact ⟨rfl, HB11.out⟩
theorem own : ownKnob Try.prog.godebug = none := by kernel_rfl
theorem laidOut : laidOutB Try.prog = true := by kernel_rfl
set_option maxRecDepth 100000 in
theorem lifted (os : Os) (started : os.Started) (H : Type) (enc : TypeId × Value → H) :
    ReturnsInHanded {} Try.checked os 10 .any (Rows.fnExactDecodeHeapSpec.pre6 enc Try.prog Try.f10 Rows.fnExactDecodeHeapRow.domain false) (Rows.fnExactDecodeHeapSpec.post enc Try.prog Try.f10 false true false false) := by
  refine returnsInHanded_of_change (C := Try.checked) own started (by kernel_rfl) Try.func10
    (ChangeSpec.witness6 (enc := enc) (C := Try.checked) false ⟨#[], #[.string ByteArray.empty], []⟩ 8 (by kernel_rfl) (by kernel_rfl) (by kernel_rfl) (by kernel_rfl)) ?_
  intro W base args ds gs before hval0 hW hcnd _
  have hval : ∀ (j : Nat) t v, Try.f10.params[j]? = some t → args[j]? = some v → Value.okWide Try.prog W .any base t v := hval0
  have hW' := hW
  obtain ⟨p, q, hA0, hV, rfl, hfz, hnd⟩ := hW
  have hA : DataW.TrodAll enc Try.prog W 0 (fun _ => true) true Try.f10.params.toList args.toList ds p := hA0
  rw [Try.params10] at hA hval
  obtain ⟨v0, vs0, d0, ds0, p0, q0, hargs, rfl, rfl, h0, r0⟩ := trodAll_cons hA
  obtain ⟨rfl, rfl, rfl⟩ := trodAll_nil r0
  obtain rfl : args = #[v0] := by cases args; simp_all
  obtain ⟨rfl, rfl⟩ := trodVars_none hV
  obtain ⟨a0, rfl, rfl, rfl, g0⟩ := open_string Try.underlying9 (hval 0 9 v0 rfl rfl) h0
  clear hA0 hval0
  refine (walk W a0  g0).mono fun e W' ⟨he, bel⟩ => ?_
  subst he
  exact ⟨_, rfl, _, _, _, [], _, [], hW', (trodAll_cons_mk (shut_bool Try.underlying4 _) trodAll_mk0), (trodAll_cons_mk (shut_string Try.underlying9 g0) trodAll_mk0), rfl, bel.frame _, fun h => by cases h⟩
theorem closed : joinedFacts Try.pinned.checked.prog 10 Try.f10 Rows.fnExactDecodeHeapSpec Rows.fnExactDecodeHeapRow = true := by
  unfold joinedFacts
  rw [mayE, lifF, mkP]
  kernel_rfl
theorem over : Rows.fnExactDecodeHeapRow.holds Try.pinned (OpenSpec.ofChange Rows.fnExactDecodeHeapSpec) :=
  OpenClaim.holds_of_wide 10 Try.f10 rfl rfl rfl rfl rfl rfl rfl ⟨rfl, rfl, rfl, rfl, rfl⟩ rfl rfl rfl rfl rfl (by kernel_rfl) Try.func10 closed
    (of_decide_eq_true (by kernel_rfl)) (by unfold Func.isWrapper; rw [if_neg (of_decide_eq_false (by kernel_rfl))]; exact ⟨rfl, rfl⟩)
    (fun os started H enc _ => lifted os started H enc)
theorem proved : Rows.FnExactDecodeHeapSaid := over
end Go.Proofs.Ytabnglimchjgpaa.fnExactDecodeHeap
