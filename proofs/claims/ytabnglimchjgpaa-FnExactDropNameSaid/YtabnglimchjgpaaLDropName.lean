/- The statement of the law FnExactDropName: whatever the input, the program's function answers as the model's, every field; the answer owns its memory, and the input reads as it did. Its conditions are the given statement's own; nothing is added. -/
import Derived.Test.YtabnglimchjgpaaJf
import Derived.Test.YtabnglimchjgpaaDpI
import Derived.Test.YtabnglimchjgpaaFrmV
import Derived.Test.YtabnglimchjgpaaAcc
import Derived.ProofKit
import Derived.OpenShut
import Derived.ShutString
import Derived.ChangeOld
import Derived.Below
import Derived.Deep.DeepFit
import Derived.Deep.WholeRow
import Derived.Deep.RegionHeld3
namespace Go.Proofs.Ytabnglimchjgpaa.fnExactDropName
open Go.ChangeShapes Go.WideShapes Go.ChangeAt Go.RowKit
open Go.ChangeMaps (open_string shut_string)
set_option linter.unusedVariables false
set_option maxHeartbeats 16000000 in
set_option maxRecDepth 100000 in
theorem walk (w : World) (v0 : Value) (ss : List ByteArray) (a1 : Int) (h0 : RiT w.heap.size w v0 ss) (h1 : (Lit.int .i64 a1).wf = true) :
    Calls Try.prog 7 #[.agg #[v0], .int .i64 a1] w (GivesB (.bool true) w) := by
  have Ha := Lib.hid h0; obtain ⟨A0, c0, rfl, -, -, -⟩ := h0
  have S0 := Lib.hid (fun (SM : Hid (SmT ss)) (W : World) (X : Option Addr) (g0 : RiT W.heap.size W (.slice X ss.length ss.length) ss) => specDropName_any g0 h1 (Nat.le_refl _) SM.out)
  have P0 := Lib.hid (fun (SM : Hid (SmT ss)) (W : World) (X : Option Addr) (g0 : RiT W.heap.size W (.slice X ss.length ss.length) ss) => implDropName_any g0 h1 (Nat.le_refl _) SM.out)
  have DOK : Hid (SmT ss → (∀ x ∈ dpL ss a1, x.size ≤ maxLen) ∧ (dpL ss a1).length ≤ 1300000) := Lib.hid (fun sm => by have SM := Lib.hid sm; exact dp_ok SM.out)
  have IDa : Hid (∀ x ∈ ss, x.size ≤ maxLen) := Lib.hid Ha.out.inT
  generalize dpL ss a1 = D at *
  generalize dpC ss a1 = r1 at *
  have eqa : ∀ x : Int, (x == x) = true := by simp
  have eqb : ∀ x : Bool, (x == x) = true := by simp
  have HB0 : Hid (Below w.heap.size w (w.alloc (.cells #[.slice A0 ss.length c0] 24))) := Lib.hid ((Below.refl _ w).alloc (Nat.le_refl _) _)
  have SZ0 : Hid (w.heap.size + 1 ≤ (w.alloc (.cells #[.slice A0 ss.length c0] 24)).heap.size) := Lib.hid (by simp)
  have F_0 : Hid ((w.alloc (.cells #[.slice A0 ss.length c0] 24)).heap[w.heap.size]? = some (.cells #[.slice A0 ss.length c0] 24 (0, 0))) := Lib.hid (heap_alloc_new w _)
  go_enter Try.func7, Try.ntmps7
  have qcF : (w.alloc (.cells #[.slice A0 ss.length c0] 24)).cell? ⟨w.heap.size, 0, none⟩ = some (.slice A0 ss.length c0) := by rw [cell_of_row _ _ _ _ _ _ F_0.out]; rfl
  go_wp2_with (first | (refine wpList_load_row rfl 24 (.tmp 2) rfl _ rfl 24 _ (0, 0) _ F_0.out Try.underlying24 rfl (by kernel_rfl) ?_))
  clear qcF
  generalize (w.alloc (.cells #[.slice A0 ss.length c0] 24)) = w0 at *
  refine (szHp_any (Ha.out.at (Nat.le_refl _) HB0.out) (Nat.le_refl _) (1048576) (by omega) (by omega)).mono ?_
  rintro e w1 ⟨l0, rfl, hl0, hL0, hp0, g⟩
  have Pz := Lib.hid hp0; have G1 := Lib.hid g; have SZ1 : Hid (w0.heap.size ≤ w1.heap.size) := Lib.hid g.size; clear hp0 g
  have F_1 : Hid (w1.heap[w.heap.size]? = some (.cells #[.slice A0 ss.length c0] 24 (0, 0))) := Lib.hid ((G1.out.block _ (by have s0 := SZ0.out; omega)).trans F_0.out)
  have HB1 : Hid (Below w.heap.size w w1) := Lib.hid (HB0.out.trans (G1.out.mono HB0.out.size))
  by_cases neg0 : l0 < 0
  · skip
    go_wp2_with fail
    go_ret
    exact ⟨rfl, HB1.out⟩
  have SM := Lib.hid (Pz.out (by omega))
  have DK := Lib.hid (DOK.out SM.out)
  have ID := Lib.hid DK.out.1
  have qcF : w1.cell? ⟨w.heap.size, 0, none⟩ = some (.slice A0 ss.length c0) := by rw [cell_of_row _ _ _ _ _ _ F_1.out]; rfl
  go_wp2_with (first | (refine wpList_load_row rfl 24 (.tmp 2) rfl _ rfl 24 _ (0, 0) _ F_1.out Try.underlying24 rfl (by kernel_rfl) ?_))
  clear qcF
  refine (toHp_any (Ha.out.at (Nat.le_refl _) HB1.out) (Nat.le_refl _) SM.out).mono ?_
  rintro e w2 ⟨TA0, rfl, oa, ia, r0, g⟩
  have G2 := Lib.hid g; have SZ2 : Hid (w1.heap.size ≤ w2.heap.size) := Lib.hid g.size; clear g
  have F_2 : Hid (w2.heap[w.heap.size]? = some (.cells #[.slice A0 ss.length c0] 24 (0, 0))) := Lib.hid ((G2.out.block _ (by have s0 := SZ0.out; have s1 := SZ1.out; omega)).trans F_1.out)
  have HB2 : Hid (Below w.heap.size w w2) := Lib.hid (HB1.out.trans (G2.out.mono HB1.out.size))
  have OT_2 : Hid (OT w2 w1.heap.size (.slice TA0 ss.length ss.length) ss) := Lib.hid oa
  have KIT := Lib.hid ia; clear oa ia r0
  have qcF : w2.cell? ⟨w.heap.size, 0, none⟩ = some (.slice A0 ss.length c0) := by rw [cell_of_row _ _ _ _ _ _ F_2.out]; rfl
  go_wp2_with (first | (refine wpList_load_row rfl 24 (.tmp 2) rfl _ rfl 24 _ (0, 0) _ F_2.out Try.underlying24 rfl (by kernel_rfl) ?_))
  clear qcF
  refine (S0.out SM w2 _ (OT_2.out.rit IDa.out)).mono ?_
  rintro e w3 ⟨vz, rfl, oa, g⟩
  have G3 := Lib.hid g; have SZ3 : Hid (w2.heap.size ≤ w3.heap.size) := Lib.hid g.size; clear g
  have F_3 : Hid (w3.heap[w.heap.size]? = some (.cells #[.slice A0 ss.length c0] 24 (0, 0))) := Lib.hid ((G3.out.block _ (by have s0 := SZ0.out; have s1 := SZ1.out; have s2 := SZ2.out; omega)).trans F_2.out)
  have OT_3 : Hid (OT w3 w1.heap.size (.slice TA0 ss.length ss.length) ss) := Lib.hid (own_bel OT_2.out G3.out)
  have HB3 : Hid (Below w.heap.size w w3) := Lib.hid (HB2.out.trans (G3.out.mono HB2.out.size))
  obtain ⟨ZA, Zc, rfl⟩ := oa.op
  simp only [mkC2]
  have OZ_3 : Hid (OT w3 w2.heap.size (.slice ZA D.length Zc) D) := Lib.hid oa
  have KIZ : Hid (Wi w2.heap.size w3.heap.size (.slice ZA D.length Zc)) := Lib.hid (own_wi oa); clear oa
  have G4 : Hid (Below w3.heap.size w3 (w3.alloc (.cells #[.slice ZA D.length Zc] 27))) := Lib.hid ((Below.refl _ _).alloc (Nat.le_refl _) _)
  have SZ4 : Hid (w3.heap.size + 1 ≤ (w3.alloc (.cells #[.slice ZA D.length Zc] 27)).heap.size) := Lib.hid (by simp)
  have F_4 : Hid ((w3.alloc (.cells #[.slice ZA D.length Zc] 27)).heap[w.heap.size]? = some (.cells #[.slice A0 ss.length c0] 24 (0, 0))) := Lib.hid ((G4.out.block _ (by have s0 := SZ0.out; have s1 := SZ1.out; have s2 := SZ2.out; have s3 := SZ3.out; omega)).trans F_3.out)
  have OZ_4 : Hid (OT (w3.alloc (.cells #[.slice ZA D.length Zc] 27)) w2.heap.size (.slice ZA D.length Zc) D) := Lib.hid (own_bel OZ_3.out G4.out)
  have HB4 : Hid (Below w.heap.size w (w3.alloc (.cells #[.slice ZA D.length Zc] 27))) := Lib.hid (HB3.out.trans (G4.out.mono HB3.out.size))
  have KZ_4 : Hid ((w3.alloc (.cells #[.slice ZA D.length Zc] 27)).heap[w3.heap.size]? = some (.cells #[.slice ZA D.length Zc] 27 (0, 0))) := Lib.hid (heap_alloc_new w3 _)
  have qcF : (w3.alloc (.cells #[.slice ZA D.length Zc] 27)).cell? ⟨w.heap.size, 0, none⟩ = some (.slice A0 ss.length c0) := by rw [cell_of_row _ _ _ _ _ _ F_4.out]; rfl
  have qcKZ : (w3.alloc (.cells #[.slice ZA D.length Zc] 27)).cell? ⟨w3.heap.size, 0, none⟩ = some (.slice ZA D.length Zc) := by rw [cell_of_row _ _ _ _ _ _ KZ_4.out]; rfl
  go_wp2_with (first | (refine wpList_load_row rfl 24 (.tmp 2) rfl _ rfl 24 _ (0, 0) _ F_4.out Try.underlying24 rfl (by kernel_rfl) ?_) | (refine wpList_load_row rfl 27 (.tmp 6) rfl _ rfl 27 _ (0, 0) _ KZ_4.out Try.underlying27 rfl (by kernel_rfl) ?_))
  clear qcF qcKZ
  generalize (w3.alloc (.cells #[.slice ZA D.length Zc] 27)) = w4 at *
  refine (toHp_any (Ha.out.at (Nat.le_refl _) HB4.out) (Nat.le_refl _) SM.out).mono ?_
  rintro e w5 ⟨VA0, rfl, oa, ia, r0, g⟩
  have G5 := Lib.hid g; have SZ5 : Hid (w4.heap.size ≤ w5.heap.size) := Lib.hid g.size; clear g
  have F_5 : Hid (w5.heap[w.heap.size]? = some (.cells #[.slice A0 ss.length c0] 24 (0, 0))) := Lib.hid ((G5.out.block _ (by have s0 := SZ0.out; have s1 := SZ1.out; have s2 := SZ2.out; have s3 := SZ3.out; have s4 := SZ4.out; omega)).trans F_4.out)
  have OZ_5 : Hid (OT w5 w2.heap.size (.slice ZA D.length Zc) D) := Lib.hid (own_bel OZ_4.out G5.out)
  have KZ_5 : Hid (w5.heap[w3.heap.size]? = some (.cells #[.slice ZA D.length Zc] 27 (0, 0))) := Lib.hid ((G5.out.block _ (by have s0 := SZ0.out; have s1 := SZ1.out; have s2 := SZ2.out; have s3 := SZ3.out; have s4 := SZ4.out; omega)).trans KZ_4.out)
  have HB5 : Hid (Below w.heap.size w w5) := Lib.hid (HB4.out.trans (G5.out.mono HB4.out.size))
  have OV_5 : Hid (OT w5 w4.heap.size (.slice VA0 ss.length ss.length) ss) := Lib.hid oa
  have KIV := Lib.hid ia; clear oa ia r0
  have G6 : Hid (Below w5.heap.size w5 (w5.alloc (.cells #[.slice VA0 ss.length ss.length] 27))) := Lib.hid ((Below.refl _ _).alloc (Nat.le_refl _) _)
  have SZ6 : Hid (w5.heap.size + 1 ≤ (w5.alloc (.cells #[.slice VA0 ss.length ss.length] 27)).heap.size) := Lib.hid (by simp)
  have F_6 : Hid ((w5.alloc (.cells #[.slice VA0 ss.length ss.length] 27)).heap[w.heap.size]? = some (.cells #[.slice A0 ss.length c0] 24 (0, 0))) := Lib.hid ((G6.out.block _ (by have s0 := SZ0.out; have s1 := SZ1.out; have s2 := SZ2.out; have s3 := SZ3.out; have s4 := SZ4.out; have s5 := SZ5.out; omega)).trans F_5.out)
  have OZ_6 : Hid (OT (w5.alloc (.cells #[.slice VA0 ss.length ss.length] 27)) w2.heap.size (.slice ZA D.length Zc) D) := Lib.hid (own_bel OZ_5.out G6.out)
  have KZ_6 : Hid ((w5.alloc (.cells #[.slice VA0 ss.length ss.length] 27)).heap[w3.heap.size]? = some (.cells #[.slice ZA D.length Zc] 27 (0, 0))) := Lib.hid ((G6.out.block _ (by have s0 := SZ0.out; have s1 := SZ1.out; have s2 := SZ2.out; have s3 := SZ3.out; have s4 := SZ4.out; have s5 := SZ5.out; omega)).trans KZ_5.out)
  have OV_6 : Hid (OT (w5.alloc (.cells #[.slice VA0 ss.length ss.length] 27)) w4.heap.size (.slice VA0 ss.length ss.length) ss) := Lib.hid (own_bel OV_5.out G6.out)
  have HB6 : Hid (Below w.heap.size w (w5.alloc (.cells #[.slice VA0 ss.length ss.length] 27))) := Lib.hid (HB5.out.trans (G6.out.mono HB5.out.size))
  have KV_6 : Hid ((w5.alloc (.cells #[.slice VA0 ss.length ss.length] 27)).heap[w5.heap.size]? = some (.cells #[.slice VA0 ss.length ss.length] 27 (0, 0))) := Lib.hid (heap_alloc_new w5 _)
  have qcF : (w5.alloc (.cells #[.slice VA0 ss.length ss.length] 27)).cell? ⟨w.heap.size, 0, none⟩ = some (.slice A0 ss.length c0) := by rw [cell_of_row _ _ _ _ _ _ F_6.out]; rfl
  have qcKZ : (w5.alloc (.cells #[.slice VA0 ss.length ss.length] 27)).cell? ⟨w3.heap.size, 0, none⟩ = some (.slice ZA D.length Zc) := by rw [cell_of_row _ _ _ _ _ _ KZ_6.out]; rfl
  have qcKV : (w5.alloc (.cells #[.slice VA0 ss.length ss.length] 27)).cell? ⟨w5.heap.size, 0, none⟩ = some (.slice VA0 ss.length ss.length) := by rw [cell_of_row _ _ _ _ _ _ KV_6.out]; rfl
  go_wp2_with (first | (refine wpList_load_row rfl 24 (.tmp 2) rfl _ rfl 24 _ (0, 0) _ F_6.out Try.underlying24 rfl (by kernel_rfl) ?_) | (refine wpList_load_row rfl 27 (.tmp 6) rfl _ rfl 27 _ (0, 0) _ KZ_6.out Try.underlying27 rfl (by kernel_rfl) ?_) | (refine wpList_load_row rfl 27 (.tmp 8) rfl _ rfl 27 _ (0, 0) _ KV_6.out Try.underlying27 rfl (by kernel_rfl) ?_))
  clear qcF qcKZ qcKV
  generalize (w5.alloc (.cells #[.slice VA0 ss.length ss.length] 27)) = w6 at *
  refine (P0.out SM w6 _ (OV_6.out.rit IDa.out)).mono ?_
  rintro e w7 ⟨vz, rfl, oa, g⟩
  have G7 := Lib.hid g; have SZ7 : Hid (w6.heap.size ≤ w7.heap.size) := Lib.hid g.size; clear g
  have F_7 : Hid (w7.heap[w.heap.size]? = some (.cells #[.slice A0 ss.length c0] 24 (0, 0))) := Lib.hid ((G7.out.block _ (by have s0 := SZ0.out; have s1 := SZ1.out; have s2 := SZ2.out; have s3 := SZ3.out; have s4 := SZ4.out; have s5 := SZ5.out; have s6 := SZ6.out; omega)).trans F_6.out)
  have OZ_7 : Hid (OT w7 w2.heap.size (.slice ZA D.length Zc) D) := Lib.hid (own_bel OZ_6.out G7.out)
  have KZ_7 : Hid (w7.heap[w3.heap.size]? = some (.cells #[.slice ZA D.length Zc] 27 (0, 0))) := Lib.hid ((G7.out.block _ (by have s0 := SZ0.out; have s1 := SZ1.out; have s2 := SZ2.out; have s3 := SZ3.out; have s4 := SZ4.out; have s5 := SZ5.out; have s6 := SZ6.out; omega)).trans KZ_6.out)
  have OV_7 : Hid (OT w7 w4.heap.size (.slice VA0 ss.length ss.length) ss) := Lib.hid (own_bel OV_6.out G7.out)
  have KV_7 : Hid (w7.heap[w5.heap.size]? = some (.cells #[.slice VA0 ss.length ss.length] 27 (0, 0))) := Lib.hid ((G7.out.block _ (by have s0 := SZ0.out; have s1 := SZ1.out; have s2 := SZ2.out; have s3 := SZ3.out; have s4 := SZ4.out; have s5 := SZ5.out; have s6 := SZ6.out; omega)).trans KV_6.out)
  have HB7 : Hid (Below w.heap.size w w7) := Lib.hid (HB6.out.trans (G7.out.mono HB6.out.size))
  obtain ⟨YA, Yc, rfl⟩ := oa.op
  simp only [mkC2]
  have OY_7 : Hid (OT w7 w6.heap.size (.slice YA D.length Yc) D) := Lib.hid oa
  have KIY : Hid (Wi w6.heap.size w7.heap.size (.slice YA D.length Yc)) := Lib.hid (own_wi oa); clear oa
  have G8 : Hid (Below w7.heap.size w7 (w7.alloc (.cells #[.slice YA D.length Yc] 27))) := Lib.hid ((Below.refl _ _).alloc (Nat.le_refl _) _)
  have SZ8 : Hid (w7.heap.size + 1 ≤ (w7.alloc (.cells #[.slice YA D.length Yc] 27)).heap.size) := Lib.hid (by simp)
  have F_8 : Hid ((w7.alloc (.cells #[.slice YA D.length Yc] 27)).heap[w.heap.size]? = some (.cells #[.slice A0 ss.length c0] 24 (0, 0))) := Lib.hid ((G8.out.block _ (by have s0 := SZ0.out; have s1 := SZ1.out; have s2 := SZ2.out; have s3 := SZ3.out; have s4 := SZ4.out; have s5 := SZ5.out; have s6 := SZ6.out; have s7 := SZ7.out; omega)).trans F_7.out)
  have OZ_8 : Hid (OT (w7.alloc (.cells #[.slice YA D.length Yc] 27)) w2.heap.size (.slice ZA D.length Zc) D) := Lib.hid (own_bel OZ_7.out G8.out)
  have KZ_8 : Hid ((w7.alloc (.cells #[.slice YA D.length Yc] 27)).heap[w3.heap.size]? = some (.cells #[.slice ZA D.length Zc] 27 (0, 0))) := Lib.hid ((G8.out.block _ (by have s0 := SZ0.out; have s1 := SZ1.out; have s2 := SZ2.out; have s3 := SZ3.out; have s4 := SZ4.out; have s5 := SZ5.out; have s6 := SZ6.out; have s7 := SZ7.out; omega)).trans KZ_7.out)
  have OV_8 : Hid (OT (w7.alloc (.cells #[.slice YA D.length Yc] 27)) w4.heap.size (.slice VA0 ss.length ss.length) ss) := Lib.hid (own_bel OV_7.out G8.out)
  have KV_8 : Hid ((w7.alloc (.cells #[.slice YA D.length Yc] 27)).heap[w5.heap.size]? = some (.cells #[.slice VA0 ss.length ss.length] 27 (0, 0))) := Lib.hid ((G8.out.block _ (by have s0 := SZ0.out; have s1 := SZ1.out; have s2 := SZ2.out; have s3 := SZ3.out; have s4 := SZ4.out; have s5 := SZ5.out; have s6 := SZ6.out; have s7 := SZ7.out; omega)).trans KV_7.out)
  have OY_8 : Hid (OT (w7.alloc (.cells #[.slice YA D.length Yc] 27)) w6.heap.size (.slice YA D.length Yc) D) := Lib.hid (own_bel OY_7.out G8.out)
  have HB8 : Hid (Below w.heap.size w (w7.alloc (.cells #[.slice YA D.length Yc] 27))) := Lib.hid (HB7.out.trans (G8.out.mono HB7.out.size))
  have KY_8 : Hid ((w7.alloc (.cells #[.slice YA D.length Yc] 27)).heap[w7.heap.size]? = some (.cells #[.slice YA D.length Yc] 27 (0, 0))) := Lib.hid (heap_alloc_new w7 _)
  have qcF : (w7.alloc (.cells #[.slice YA D.length Yc] 27)).cell? ⟨w.heap.size, 0, none⟩ = some (.slice A0 ss.length c0) := by rw [cell_of_row _ _ _ _ _ _ F_8.out]; rfl
  have qcKZ : (w7.alloc (.cells #[.slice YA D.length Yc] 27)).cell? ⟨w3.heap.size, 0, none⟩ = some (.slice ZA D.length Zc) := by rw [cell_of_row _ _ _ _ _ _ KZ_8.out]; rfl
  have qcKV : (w7.alloc (.cells #[.slice YA D.length Yc] 27)).cell? ⟨w5.heap.size, 0, none⟩ = some (.slice VA0 ss.length ss.length) := by rw [cell_of_row _ _ _ _ _ _ KV_8.out]; rfl
  have qcKY : (w7.alloc (.cells #[.slice YA D.length Yc] 27)).cell? ⟨w7.heap.size, 0, none⟩ = some (.slice YA D.length Yc) := by rw [cell_of_row _ _ _ _ _ _ KY_8.out]; rfl
  go_wp2_with (first | (refine wpList_load_row rfl 24 (.tmp 2) rfl _ rfl 24 _ (0, 0) _ F_8.out Try.underlying24 rfl (by kernel_rfl) ?_) | (refine wpList_load_row rfl 27 (.tmp 6) rfl _ rfl 27 _ (0, 0) _ KZ_8.out Try.underlying27 rfl (by kernel_rfl) ?_) | (refine wpList_load_row rfl 27 (.tmp 8) rfl _ rfl 27 _ (0, 0) _ KV_8.out Try.underlying27 rfl (by kernel_rfl) ?_) | (refine wpList_load_row rfl 27 (.tmp 9) rfl _ rfl 27 _ (0, 0) _ KY_8.out Try.underlying27 rfl (by kernel_rfl) ?_))
  clear qcF qcKZ qcKV qcKY
  generalize (w7.alloc (.cells #[.slice YA D.length Yc] 27)) = w8 at *
  refine (eqHp_any (OY_8.out.rit ID.out) (OZ_8.out.rit ID.out) (Nat.le_refl _)).mono ?_
  rintro e w9 ⟨rfl, g⟩
  have G9 := Lib.hid g; have SZ9 : Hid (w8.heap.size ≤ w9.heap.size) := Lib.hid g.size; clear g
  have F_9 : Hid (w9.heap[w.heap.size]? = some (.cells #[.slice A0 ss.length c0] 24 (0, 0))) := Lib.hid ((G9.out.block _ (by have s0 := SZ0.out; have s1 := SZ1.out; have s2 := SZ2.out; have s3 := SZ3.out; have s4 := SZ4.out; have s5 := SZ5.out; have s6 := SZ6.out; have s7 := SZ7.out; have s8 := SZ8.out; omega)).trans F_8.out)
  have OZ_9 : Hid (OT w9 w2.heap.size (.slice ZA D.length Zc) D) := Lib.hid (own_bel OZ_8.out G9.out)
  have KZ_9 : Hid (w9.heap[w3.heap.size]? = some (.cells #[.slice ZA D.length Zc] 27 (0, 0))) := Lib.hid ((G9.out.block _ (by have s0 := SZ0.out; have s1 := SZ1.out; have s2 := SZ2.out; have s3 := SZ3.out; have s4 := SZ4.out; have s5 := SZ5.out; have s6 := SZ6.out; have s7 := SZ7.out; have s8 := SZ8.out; omega)).trans KZ_8.out)
  have OV_9 : Hid (OT w9 w4.heap.size (.slice VA0 ss.length ss.length) ss) := Lib.hid (own_bel OV_8.out G9.out)
  have KV_9 : Hid (w9.heap[w5.heap.size]? = some (.cells #[.slice VA0 ss.length ss.length] 27 (0, 0))) := Lib.hid ((G9.out.block _ (by have s0 := SZ0.out; have s1 := SZ1.out; have s2 := SZ2.out; have s3 := SZ3.out; have s4 := SZ4.out; have s5 := SZ5.out; have s6 := SZ6.out; have s7 := SZ7.out; have s8 := SZ8.out; omega)).trans KV_8.out)
  have OY_9 : Hid (OT w9 w6.heap.size (.slice YA D.length Yc) D) := Lib.hid (own_bel OY_8.out G9.out)
  have KY_9 : Hid (w9.heap[w7.heap.size]? = some (.cells #[.slice YA D.length Yc] 27 (0, 0))) := Lib.hid ((G9.out.block _ (by have s0 := SZ0.out; have s1 := SZ1.out; have s2 := SZ2.out; have s3 := SZ3.out; have s4 := SZ4.out; have s5 := SZ5.out; have s6 := SZ6.out; have s7 := SZ7.out; have s8 := SZ8.out; omega)).trans KY_8.out)
  have HB9 : Hid (Below w.heap.size w w9) := Lib.hid (HB8.out.trans (G9.out.mono HB8.out.size))
  have HSd : Hid (∀ W, Below w9.heap.size w9 W → W.cell? ⟨w.heap.size, 0, none⟩ = some (.slice A0 ss.length c0) ∧ W.cell? ⟨w5.heap.size, 0, none⟩ = some (.slice VA0 ss.length ss.length)) := Lib.hid (fun W hW => by
    have r1 := (hW.block _ (by have s0 := SZ0.out; have s1 := SZ1.out; have s2 := SZ2.out; have s3 := SZ3.out; have s4 := SZ4.out; have s5 := SZ5.out; have s6 := SZ6.out; have s7 := SZ7.out; have s8 := SZ8.out; have s9 := SZ9.out; omega)).trans F_9.out
    have r2 := (hW.block _ (by have s0 := SZ0.out; have s1 := SZ1.out; have s2 := SZ2.out; have s3 := SZ3.out; have s4 := SZ4.out; have s5 := SZ5.out; have s6 := SZ6.out; have s7 := SZ7.out; have s8 := SZ8.out; have s9 := SZ9.out; omega)).trans KV_9.out
    exact ⟨by rw [cell_of_row _ _ _ _ _ _ r1]; rfl, by rw [cell_of_row _ _ _ _ _ _ r2]; rfl⟩)
  have HDd : Hid (Below w9.heap.size w9 w9.drew) := Lib.hid (Below.refl _ _).drew
  have HEd : Hid (Below w.heap.size w w9.drew) := Lib.hid (HB9.out.trans (HDd.out.mono HB9.out.size))
  go_wp2
  go_region_held3 (fun W => W.cell? ⟨w.heap.size, 0, none⟩ = some (.slice A0 ss.length c0) ∧ W.cell? ⟨w5.heap.size, 0, none⟩ = some (.slice VA0 ss.length ss.length)) (exact HSd.out _ (by first | exact kb | exact ka | exact HDd.out))
    ((first | (go_at_call 16; go_fit (toHp_any (Ha.out.at (Nat.le_refl _) HEd.out) (Nat.le_refl _) SM.out); rintro e ua ⟨NA0, rfl, oa, -, -, ga⟩; have ON0 := Lib.hid oa; clear oa; have ka : Below w9.heap.size w9 ua := HDd.out.trans ga; have gaa := Lib.hid ga; clear ga) | (go_at_call 18; go_fit (eqHp_any (OT.rit (own_bel OV_9.out ka) IDa.out) (OT.rit ON0.out IDa.out) (Nat.le_refl _)); rintro e w10 ⟨rfl, gb⟩; have kb : Below w9.heap.size w9 w10 := ka.trans (gb.mono ka.size); clear gb)))
  try simp only [Exit.then]
  have G10 := Lib.hid kb; have SZ10 : Hid (w9.heap.size ≤ w10.heap.size) := Lib.hid kb.size; clear kb ka gaa
  have F_10 : Hid (w10.heap[w.heap.size]? = some (.cells #[.slice A0 ss.length c0] 24 (0, 0))) := Lib.hid ((G10.out.block _ (by have s0 := SZ0.out; have s1 := SZ1.out; have s2 := SZ2.out; have s3 := SZ3.out; have s4 := SZ4.out; have s5 := SZ5.out; have s6 := SZ6.out; have s7 := SZ7.out; have s8 := SZ8.out; have s9 := SZ9.out; omega)).trans F_9.out)
  have OZ_10 : Hid (OT w10 w2.heap.size (.slice ZA D.length Zc) D) := Lib.hid (own_bel OZ_9.out G10.out)
  have KZ_10 : Hid (w10.heap[w3.heap.size]? = some (.cells #[.slice ZA D.length Zc] 27 (0, 0))) := Lib.hid ((G10.out.block _ (by have s0 := SZ0.out; have s1 := SZ1.out; have s2 := SZ2.out; have s3 := SZ3.out; have s4 := SZ4.out; have s5 := SZ5.out; have s6 := SZ6.out; have s7 := SZ7.out; have s8 := SZ8.out; have s9 := SZ9.out; omega)).trans KZ_9.out)
  have OV_10 : Hid (OT w10 w4.heap.size (.slice VA0 ss.length ss.length) ss) := Lib.hid (own_bel OV_9.out G10.out)
  have KV_10 : Hid (w10.heap[w5.heap.size]? = some (.cells #[.slice VA0 ss.length ss.length] 27 (0, 0))) := Lib.hid ((G10.out.block _ (by have s0 := SZ0.out; have s1 := SZ1.out; have s2 := SZ2.out; have s3 := SZ3.out; have s4 := SZ4.out; have s5 := SZ5.out; have s6 := SZ6.out; have s7 := SZ7.out; have s8 := SZ8.out; have s9 := SZ9.out; omega)).trans KV_9.out)
  have OY_10 : Hid (OT w10 w6.heap.size (.slice YA D.length Yc) D) := Lib.hid (own_bel OY_9.out G10.out)
  have KY_10 : Hid (w10.heap[w7.heap.size]? = some (.cells #[.slice YA D.length Yc] 27 (0, 0))) := Lib.hid ((G10.out.block _ (by have s0 := SZ0.out; have s1 := SZ1.out; have s2 := SZ2.out; have s3 := SZ3.out; have s4 := SZ4.out; have s5 := SZ5.out; have s6 := SZ6.out; have s7 := SZ7.out; have s8 := SZ8.out; have s9 := SZ9.out; omega)).trans KY_9.out)
  have HB10 : Hid (Below w.heap.size w w10) := Lib.hid (HB9.out.trans (G10.out.mono HB9.out.size))
  have qcF : w10.cell? ⟨w.heap.size, 0, none⟩ = some (.slice A0 ss.length c0) := by rw [cell_of_row _ _ _ _ _ _ F_10.out]; rfl
  have qcKZ : w10.cell? ⟨w3.heap.size, 0, none⟩ = some (.slice ZA D.length Zc) := by rw [cell_of_row _ _ _ _ _ _ KZ_10.out]; rfl
  have qcKV : w10.cell? ⟨w5.heap.size, 0, none⟩ = some (.slice VA0 ss.length ss.length) := by rw [cell_of_row _ _ _ _ _ _ KV_10.out]; rfl
  have qcKY : w10.cell? ⟨w7.heap.size, 0, none⟩ = some (.slice YA D.length Yc) := by rw [cell_of_row _ _ _ _ _ _ KY_10.out]; rfl
  go_wp2_with (first | (refine wpList_load_row rfl 24 (.tmp 2) rfl _ rfl 24 _ (0, 0) _ F_10.out Try.underlying24 rfl (by kernel_rfl) ?_) | (refine wpList_load_row rfl 27 (.tmp 6) rfl _ rfl 27 _ (0, 0) _ KZ_10.out Try.underlying27 rfl (by kernel_rfl) ?_) | (refine wpList_load_row rfl 27 (.tmp 8) rfl _ rfl 27 _ (0, 0) _ KV_10.out Try.underlying27 rfl (by kernel_rfl) ?_) | (refine wpList_load_row rfl 27 (.tmp 9) rfl _ rfl 27 _ (0, 0) _ KY_10.out Try.underlying27 rfl (by kernel_rfl) ?_))
  clear qcF qcKZ qcKV qcKY
  refine (markHp_any (lo := w4.heap.size) (hi := w5.heap.size) OV_10.out KIV.out (by have s0 := SZ0.out; have s1 := SZ1.out; have s2 := SZ2.out; have s3 := SZ3.out; have s4 := SZ4.out; have s5 := SZ5.out; have s6 := SZ6.out; have s7 := SZ7.out; have s8 := SZ8.out; have s9 := SZ9.out; have s10 := SZ10.out; omega) (by have s0 := SZ0.out; have s1 := SZ1.out; have s2 := SZ2.out; have s3 := SZ3.out; have s4 := SZ4.out; have s5 := SZ5.out; have s6 := SZ6.out; have s7 := SZ7.out; have s8 := SZ8.out; have s9 := SZ9.out; have s10 := SZ10.out; omega) 1 (by omega) (by have h1 := SM.out.1; omega)).mono ?_
  rintro e w11 ⟨rfl, mm⟩
  have Mv11 : Hid (Mv w4.heap.size w5.heap.size w10 w11) := Lib.hid (mm)
  have SZ11 : Hid (w10.heap.size ≤ w11.heap.size) := Lib.hid Mv11.out.2.2.2.1
  have F_11 : Hid (w11.heap[w.heap.size]? = some (.cells #[.slice A0 ss.length c0] 24 (0, 0))) := Lib.hid ((Mv11.out.2.2.2.2 _ (by have s0 := SZ0.out; have s1 := SZ1.out; have s2 := SZ2.out; have s3 := SZ3.out; have s4 := SZ4.out; have s5 := SZ5.out; have s6 := SZ6.out; have s7 := SZ7.out; have s8 := SZ8.out; have s9 := SZ9.out; have s10 := SZ10.out; omega) (by have s0 := SZ0.out; have s1 := SZ1.out; have s2 := SZ2.out; have s3 := SZ3.out; have s4 := SZ4.out; have s5 := SZ5.out; have s6 := SZ6.out; have s7 := SZ7.out; have s8 := SZ8.out; have s9 := SZ9.out; have s10 := SZ10.out; have s11 := SZ11.out; omega)).trans F_10.out)
  have OZ_11 : Hid (OT w11 w2.heap.size (.slice ZA D.length Zc) D) := Lib.hid (own_mv OZ_10.out Mv11.out (fun g hg => by have := KIZ.out g hg; have s0 := SZ0.out; have s1 := SZ1.out; have s2 := SZ2.out; have s3 := SZ3.out; have s4 := SZ4.out; have s5 := SZ5.out; have s6 := SZ6.out; have s7 := SZ7.out; have s8 := SZ8.out; have s9 := SZ9.out; have s10 := SZ10.out; have s11 := SZ11.out; omega))
  have KZ_11 : Hid (w11.heap[w3.heap.size]? = some (.cells #[.slice ZA D.length Zc] 27 (0, 0))) := Lib.hid ((Mv11.out.2.2.2.2 _ (by have s0 := SZ0.out; have s1 := SZ1.out; have s2 := SZ2.out; have s3 := SZ3.out; have s4 := SZ4.out; have s5 := SZ5.out; have s6 := SZ6.out; have s7 := SZ7.out; have s8 := SZ8.out; have s9 := SZ9.out; have s10 := SZ10.out; omega) (by have s0 := SZ0.out; have s1 := SZ1.out; have s2 := SZ2.out; have s3 := SZ3.out; have s4 := SZ4.out; have s5 := SZ5.out; have s6 := SZ6.out; have s7 := SZ7.out; have s8 := SZ8.out; have s9 := SZ9.out; have s10 := SZ10.out; have s11 := SZ11.out; omega)).trans KZ_10.out)
  have KV_11 : Hid (w11.heap[w5.heap.size]? = some (.cells #[.slice VA0 ss.length ss.length] 27 (0, 0))) := Lib.hid ((Mv11.out.2.2.2.2 _ (by have s0 := SZ0.out; have s1 := SZ1.out; have s2 := SZ2.out; have s3 := SZ3.out; have s4 := SZ4.out; have s5 := SZ5.out; have s6 := SZ6.out; have s7 := SZ7.out; have s8 := SZ8.out; have s9 := SZ9.out; have s10 := SZ10.out; omega) (by have s0 := SZ0.out; have s1 := SZ1.out; have s2 := SZ2.out; have s3 := SZ3.out; have s4 := SZ4.out; have s5 := SZ5.out; have s6 := SZ6.out; have s7 := SZ7.out; have s8 := SZ8.out; have s9 := SZ9.out; have s10 := SZ10.out; have s11 := SZ11.out; omega)).trans KV_10.out)
  have OY_11 : Hid (OT w11 w6.heap.size (.slice YA D.length Yc) D) := Lib.hid (own_mv OY_10.out Mv11.out (fun g hg => by have := KIY.out g hg; have s0 := SZ0.out; have s1 := SZ1.out; have s2 := SZ2.out; have s3 := SZ3.out; have s4 := SZ4.out; have s5 := SZ5.out; have s6 := SZ6.out; have s7 := SZ7.out; have s8 := SZ8.out; have s9 := SZ9.out; have s10 := SZ10.out; have s11 := SZ11.out; omega))
  have KY_11 : Hid (w11.heap[w7.heap.size]? = some (.cells #[.slice YA D.length Yc] 27 (0, 0))) := Lib.hid ((Mv11.out.2.2.2.2 _ (by have s0 := SZ0.out; have s1 := SZ1.out; have s2 := SZ2.out; have s3 := SZ3.out; have s4 := SZ4.out; have s5 := SZ5.out; have s6 := SZ6.out; have s7 := SZ7.out; have s8 := SZ8.out; have s9 := SZ9.out; have s10 := SZ10.out; omega) (by have s0 := SZ0.out; have s1 := SZ1.out; have s2 := SZ2.out; have s3 := SZ3.out; have s4 := SZ4.out; have s5 := SZ5.out; have s6 := SZ6.out; have s7 := SZ7.out; have s8 := SZ8.out; have s9 := SZ9.out; have s10 := SZ10.out; have s11 := SZ11.out; omega)).trans KY_10.out)
  have HB11 : Hid (Below w.heap.size w w11) := Lib.hid (Mv11.out.below HB10.out (by have s0 := SZ0.out; have s1 := SZ1.out; have s2 := SZ2.out; have s3 := SZ3.out; have s4 := SZ4.out; have s5 := SZ5.out; have s6 := SZ6.out; have s7 := SZ7.out; have s8 := SZ8.out; have s9 := SZ9.out; have s10 := SZ10.out; have s11 := SZ11.out; omega) HB10.out.size)
  clear mm
  have neg1 : ¬ (((1 + ss.length : Nat) : Int) < 0) := by omega
  have qcF : w11.cell? ⟨w.heap.size, 0, none⟩ = some (.slice A0 ss.length c0) := by rw [cell_of_row _ _ _ _ _ _ F_11.out]; rfl
  have qcKZ : w11.cell? ⟨w3.heap.size, 0, none⟩ = some (.slice ZA D.length Zc) := by rw [cell_of_row _ _ _ _ _ _ KZ_11.out]; rfl
  have qcKV : w11.cell? ⟨w5.heap.size, 0, none⟩ = some (.slice VA0 ss.length ss.length) := by rw [cell_of_row _ _ _ _ _ _ KV_11.out]; rfl
  have qcKY : w11.cell? ⟨w7.heap.size, 0, none⟩ = some (.slice YA D.length Yc) := by rw [cell_of_row _ _ _ _ _ _ KY_11.out]; rfl
  go_wp2_with (first | (refine wpList_load_row rfl 24 (.tmp 2) rfl _ rfl 24 _ (0, 0) _ F_11.out Try.underlying24 rfl (by kernel_rfl) ?_) | (refine wpList_load_row rfl 27 (.tmp 6) rfl _ rfl 27 _ (0, 0) _ KZ_11.out Try.underlying27 rfl (by kernel_rfl) ?_) | (refine wpList_load_row rfl 27 (.tmp 8) rfl _ rfl 27 _ (0, 0) _ KV_11.out Try.underlying27 rfl (by kernel_rfl) ?_) | (refine wpList_load_row rfl 27 (.tmp 9) rfl _ rfl 27 _ (0, 0) _ KY_11.out Try.underlying27 rfl (by kernel_rfl) ?_))
  clear qcF qcKZ qcKV qcKY
  refine (eqHp_any (OY_11.out.rit ID.out) (OZ_11.out.rit ID.out) (Nat.le_refl _)).mono ?_
  rintro e w12 ⟨rfl, g⟩
  have G12 := Lib.hid g; have SZ12 : Hid (w11.heap.size ≤ w12.heap.size) := Lib.hid g.size; clear g
  have F_12 : Hid (w12.heap[w.heap.size]? = some (.cells #[.slice A0 ss.length c0] 24 (0, 0))) := Lib.hid ((G12.out.block _ (by have s0 := SZ0.out; have s1 := SZ1.out; have s2 := SZ2.out; have s3 := SZ3.out; have s4 := SZ4.out; have s5 := SZ5.out; have s6 := SZ6.out; have s7 := SZ7.out; have s8 := SZ8.out; have s9 := SZ9.out; have s10 := SZ10.out; have s11 := SZ11.out; omega)).trans F_11.out)
  have OZ_12 : Hid (OT w12 w2.heap.size (.slice ZA D.length Zc) D) := Lib.hid (own_bel OZ_11.out G12.out)
  have KZ_12 : Hid (w12.heap[w3.heap.size]? = some (.cells #[.slice ZA D.length Zc] 27 (0, 0))) := Lib.hid ((G12.out.block _ (by have s0 := SZ0.out; have s1 := SZ1.out; have s2 := SZ2.out; have s3 := SZ3.out; have s4 := SZ4.out; have s5 := SZ5.out; have s6 := SZ6.out; have s7 := SZ7.out; have s8 := SZ8.out; have s9 := SZ9.out; have s10 := SZ10.out; have s11 := SZ11.out; omega)).trans KZ_11.out)
  have KV_12 : Hid (w12.heap[w5.heap.size]? = some (.cells #[.slice VA0 ss.length ss.length] 27 (0, 0))) := Lib.hid ((G12.out.block _ (by have s0 := SZ0.out; have s1 := SZ1.out; have s2 := SZ2.out; have s3 := SZ3.out; have s4 := SZ4.out; have s5 := SZ5.out; have s6 := SZ6.out; have s7 := SZ7.out; have s8 := SZ8.out; have s9 := SZ9.out; have s10 := SZ10.out; have s11 := SZ11.out; omega)).trans KV_11.out)
  have OY_12 : Hid (OT w12 w6.heap.size (.slice YA D.length Yc) D) := Lib.hid (own_bel OY_11.out G12.out)
  have KY_12 : Hid (w12.heap[w7.heap.size]? = some (.cells #[.slice YA D.length Yc] 27 (0, 0))) := Lib.hid ((G12.out.block _ (by have s0 := SZ0.out; have s1 := SZ1.out; have s2 := SZ2.out; have s3 := SZ3.out; have s4 := SZ4.out; have s5 := SZ5.out; have s6 := SZ6.out; have s7 := SZ7.out; have s8 := SZ8.out; have s9 := SZ9.out; have s10 := SZ10.out; have s11 := SZ11.out; omega)).trans KY_11.out)
  have HB12 : Hid (Below w.heap.size w w12) := Lib.hid (HB11.out.trans (G12.out.mono HB11.out.size))
  have qcF : w12.cell? ⟨w.heap.size, 0, none⟩ = some (.slice A0 ss.length c0) := by rw [cell_of_row _ _ _ _ _ _ F_12.out]; rfl
  have qcKZ : w12.cell? ⟨w3.heap.size, 0, none⟩ = some (.slice ZA D.length Zc) := by rw [cell_of_row _ _ _ _ _ _ KZ_12.out]; rfl
  have qcKV : w12.cell? ⟨w5.heap.size, 0, none⟩ = some (.slice VA0 ss.length ss.length) := by rw [cell_of_row _ _ _ _ _ _ KV_12.out]; rfl
  have qcKY : w12.cell? ⟨w7.heap.size, 0, none⟩ = some (.slice YA D.length Yc) := by rw [cell_of_row _ _ _ _ _ _ KY_12.out]; rfl
  go_wp2_with (first | (refine wpList_load_row rfl 24 (.tmp 2) rfl _ rfl 24 _ (0, 0) _ F_12.out Try.underlying24 rfl (by kernel_rfl) ?_) | (refine wpList_load_row rfl 27 (.tmp 6) rfl _ rfl 27 _ (0, 0) _ KZ_12.out Try.underlying27 rfl (by kernel_rfl) ?_) | (refine wpList_load_row rfl 27 (.tmp 8) rfl _ rfl 27 _ (0, 0) _ KV_12.out Try.underlying27 rfl (by kernel_rfl) ?_) | (refine wpList_load_row rfl 27 (.tmp 9) rfl _ rfl 27 _ (0, 0) _ KY_12.out Try.underlying27 rfl (by kernel_rfl) ?_))
  clear qcF qcKZ qcKV qcKY
  refine (markHpO_any OY_12.out 1 (by omega) (by have h1 := DK.out.2; omega)).mono ?_
  rintro e w13 ⟨rfl, oa, gr⟩
  have Mv13 : Hid (Mv w6.heap.size w7.heap.size w12 w13) := Lib.hid (Mv.grown gr KIY.out)
  have SZ13 : Hid (w12.heap.size ≤ w13.heap.size) := Lib.hid Mv13.out.2.2.2.1
  have F_13 : Hid (w13.heap[w.heap.size]? = some (.cells #[.slice A0 ss.length c0] 24 (0, 0))) := Lib.hid ((Mv13.out.2.2.2.2 _ (by have s0 := SZ0.out; have s1 := SZ1.out; have s2 := SZ2.out; have s3 := SZ3.out; have s4 := SZ4.out; have s5 := SZ5.out; have s6 := SZ6.out; have s7 := SZ7.out; have s8 := SZ8.out; have s9 := SZ9.out; have s10 := SZ10.out; have s11 := SZ11.out; have s12 := SZ12.out; omega) (by have s0 := SZ0.out; have s1 := SZ1.out; have s2 := SZ2.out; have s3 := SZ3.out; have s4 := SZ4.out; have s5 := SZ5.out; have s6 := SZ6.out; have s7 := SZ7.out; have s8 := SZ8.out; have s9 := SZ9.out; have s10 := SZ10.out; have s11 := SZ11.out; have s12 := SZ12.out; have s13 := SZ13.out; omega)).trans F_12.out)
  have OZ_13 : Hid (OT w13 w2.heap.size (.slice ZA D.length Zc) D) := Lib.hid (own_mv OZ_12.out Mv13.out (fun g hg => by have := KIZ.out g hg; have s0 := SZ0.out; have s1 := SZ1.out; have s2 := SZ2.out; have s3 := SZ3.out; have s4 := SZ4.out; have s5 := SZ5.out; have s6 := SZ6.out; have s7 := SZ7.out; have s8 := SZ8.out; have s9 := SZ9.out; have s10 := SZ10.out; have s11 := SZ11.out; have s12 := SZ12.out; have s13 := SZ13.out; omega))
  have KZ_13 : Hid (w13.heap[w3.heap.size]? = some (.cells #[.slice ZA D.length Zc] 27 (0, 0))) := Lib.hid ((Mv13.out.2.2.2.2 _ (by have s0 := SZ0.out; have s1 := SZ1.out; have s2 := SZ2.out; have s3 := SZ3.out; have s4 := SZ4.out; have s5 := SZ5.out; have s6 := SZ6.out; have s7 := SZ7.out; have s8 := SZ8.out; have s9 := SZ9.out; have s10 := SZ10.out; have s11 := SZ11.out; have s12 := SZ12.out; omega) (by have s0 := SZ0.out; have s1 := SZ1.out; have s2 := SZ2.out; have s3 := SZ3.out; have s4 := SZ4.out; have s5 := SZ5.out; have s6 := SZ6.out; have s7 := SZ7.out; have s8 := SZ8.out; have s9 := SZ9.out; have s10 := SZ10.out; have s11 := SZ11.out; have s12 := SZ12.out; have s13 := SZ13.out; omega)).trans KZ_12.out)
  have KV_13 : Hid (w13.heap[w5.heap.size]? = some (.cells #[.slice VA0 ss.length ss.length] 27 (0, 0))) := Lib.hid ((Mv13.out.2.2.2.2 _ (by have s0 := SZ0.out; have s1 := SZ1.out; have s2 := SZ2.out; have s3 := SZ3.out; have s4 := SZ4.out; have s5 := SZ5.out; have s6 := SZ6.out; have s7 := SZ7.out; have s8 := SZ8.out; have s9 := SZ9.out; have s10 := SZ10.out; have s11 := SZ11.out; have s12 := SZ12.out; omega) (by have s0 := SZ0.out; have s1 := SZ1.out; have s2 := SZ2.out; have s3 := SZ3.out; have s4 := SZ4.out; have s5 := SZ5.out; have s6 := SZ6.out; have s7 := SZ7.out; have s8 := SZ8.out; have s9 := SZ9.out; have s10 := SZ10.out; have s11 := SZ11.out; have s12 := SZ12.out; have s13 := SZ13.out; omega)).trans KV_12.out)
  have KY_13 : Hid (w13.heap[w7.heap.size]? = some (.cells #[.slice YA D.length Yc] 27 (0, 0))) := Lib.hid ((Mv13.out.2.2.2.2 _ (by have s0 := SZ0.out; have s1 := SZ1.out; have s2 := SZ2.out; have s3 := SZ3.out; have s4 := SZ4.out; have s5 := SZ5.out; have s6 := SZ6.out; have s7 := SZ7.out; have s8 := SZ8.out; have s9 := SZ9.out; have s10 := SZ10.out; have s11 := SZ11.out; have s12 := SZ12.out; omega) (by have s0 := SZ0.out; have s1 := SZ1.out; have s2 := SZ2.out; have s3 := SZ3.out; have s4 := SZ4.out; have s5 := SZ5.out; have s6 := SZ6.out; have s7 := SZ7.out; have s8 := SZ8.out; have s9 := SZ9.out; have s10 := SZ10.out; have s11 := SZ11.out; have s12 := SZ12.out; have s13 := SZ13.out; omega)).trans KY_12.out)
  have HB13 : Hid (Below w.heap.size w w13) := Lib.hid (Mv13.out.below HB12.out (by have s0 := SZ0.out; have s1 := SZ1.out; have s2 := SZ2.out; have s3 := SZ3.out; have s4 := SZ4.out; have s5 := SZ5.out; have s6 := SZ6.out; have s7 := SZ7.out; have s8 := SZ8.out; have s9 := SZ9.out; have s10 := SZ10.out; have s11 := SZ11.out; have s12 := SZ12.out; have s13 := SZ13.out; omega) HB12.out.size)
  have OY_13 : Hid (OT w13 w6.heap.size (.slice YA D.length Yc) (marksT 1 D.length)) := Lib.hid oa; clear oa gr
  have neg2 : ¬ (((1 + D.length : Nat) : Int) < 0) := by omega
  have qcF : w13.cell? ⟨w.heap.size, 0, none⟩ = some (.slice A0 ss.length c0) := by rw [cell_of_row _ _ _ _ _ _ F_13.out]; rfl
  have qcKZ : w13.cell? ⟨w3.heap.size, 0, none⟩ = some (.slice ZA D.length Zc) := by rw [cell_of_row _ _ _ _ _ _ KZ_13.out]; rfl
  have qcKV : w13.cell? ⟨w5.heap.size, 0, none⟩ = some (.slice VA0 ss.length ss.length) := by rw [cell_of_row _ _ _ _ _ _ KV_13.out]; rfl
  have qcKY : w13.cell? ⟨w7.heap.size, 0, none⟩ = some (.slice YA D.length Yc) := by rw [cell_of_row _ _ _ _ _ _ KY_13.out]; rfl
  go_wp2_with (first | (refine wpList_load_row rfl 24 (.tmp 2) rfl _ rfl 24 _ (0, 0) _ F_13.out Try.underlying24 rfl (by kernel_rfl) ?_) | (refine wpList_load_row rfl 27 (.tmp 6) rfl _ rfl 27 _ (0, 0) _ KZ_13.out Try.underlying27 rfl (by kernel_rfl) ?_) | (refine wpList_load_row rfl 27 (.tmp 8) rfl _ rfl 27 _ (0, 0) _ KV_13.out Try.underlying27 rfl (by kernel_rfl) ?_) | (refine wpList_load_row rfl 27 (.tmp 9) rfl _ rfl 27 _ (0, 0) _ KY_13.out Try.underlying27 rfl (by kernel_rfl) ?_))
  clear qcF qcKZ qcKV qcKY
  refine (heldHp_any 1 OY_13.out (by omega) (by have h1 := DK.out.2; omega)).mono ?_
  rintro e w14 ⟨rfl, g⟩
  have G14 := Lib.hid g; have SZ14 : Hid (w13.heap.size ≤ w14.heap.size) := Lib.hid g.size; clear g
  have F_14 : Hid (w14.heap[w.heap.size]? = some (.cells #[.slice A0 ss.length c0] 24 (0, 0))) := Lib.hid ((G14.out.block _ (by have s0 := SZ0.out; have s1 := SZ1.out; have s2 := SZ2.out; have s3 := SZ3.out; have s4 := SZ4.out; have s5 := SZ5.out; have s6 := SZ6.out; have s7 := SZ7.out; have s8 := SZ8.out; have s9 := SZ9.out; have s10 := SZ10.out; have s11 := SZ11.out; have s12 := SZ12.out; have s13 := SZ13.out; omega)).trans F_13.out)
  have OZ_14 : Hid (OT w14 w2.heap.size (.slice ZA D.length Zc) D) := Lib.hid (own_bel OZ_13.out G14.out)
  have KZ_14 : Hid (w14.heap[w3.heap.size]? = some (.cells #[.slice ZA D.length Zc] 27 (0, 0))) := Lib.hid ((G14.out.block _ (by have s0 := SZ0.out; have s1 := SZ1.out; have s2 := SZ2.out; have s3 := SZ3.out; have s4 := SZ4.out; have s5 := SZ5.out; have s6 := SZ6.out; have s7 := SZ7.out; have s8 := SZ8.out; have s9 := SZ9.out; have s10 := SZ10.out; have s11 := SZ11.out; have s12 := SZ12.out; have s13 := SZ13.out; omega)).trans KZ_13.out)
  have KV_14 : Hid (w14.heap[w5.heap.size]? = some (.cells #[.slice VA0 ss.length ss.length] 27 (0, 0))) := Lib.hid ((G14.out.block _ (by have s0 := SZ0.out; have s1 := SZ1.out; have s2 := SZ2.out; have s3 := SZ3.out; have s4 := SZ4.out; have s5 := SZ5.out; have s6 := SZ6.out; have s7 := SZ7.out; have s8 := SZ8.out; have s9 := SZ9.out; have s10 := SZ10.out; have s11 := SZ11.out; have s12 := SZ12.out; have s13 := SZ13.out; omega)).trans KV_13.out)
  have KY_14 : Hid (w14.heap[w7.heap.size]? = some (.cells #[.slice YA D.length Yc] 27 (0, 0))) := Lib.hid ((G14.out.block _ (by have s0 := SZ0.out; have s1 := SZ1.out; have s2 := SZ2.out; have s3 := SZ3.out; have s4 := SZ4.out; have s5 := SZ5.out; have s6 := SZ6.out; have s7 := SZ7.out; have s8 := SZ8.out; have s9 := SZ9.out; have s10 := SZ10.out; have s11 := SZ11.out; have s12 := SZ12.out; have s13 := SZ13.out; omega)).trans KY_13.out)
  have OY_14 : Hid (OT w14 w6.heap.size (.slice YA D.length Yc) (marksT 1 D.length)) := Lib.hid (own_bel OY_13.out G14.out)
  have HB14 : Hid (Below w.heap.size w w14) := Lib.hid (HB13.out.trans (G14.out.mono HB13.out.size))
  have qcF : w14.cell? ⟨w.heap.size, 0, none⟩ = some (.slice A0 ss.length c0) := by rw [cell_of_row _ _ _ _ _ _ F_14.out]; rfl
  have qcKZ : w14.cell? ⟨w3.heap.size, 0, none⟩ = some (.slice ZA D.length Zc) := by rw [cell_of_row _ _ _ _ _ _ KZ_14.out]; rfl
  have qcKV : w14.cell? ⟨w5.heap.size, 0, none⟩ = some (.slice VA0 ss.length ss.length) := by rw [cell_of_row _ _ _ _ _ _ KV_14.out]; rfl
  have qcKY : w14.cell? ⟨w7.heap.size, 0, none⟩ = some (.slice YA D.length Yc) := by rw [cell_of_row _ _ _ _ _ _ KY_14.out]; rfl
  go_wp2_with (first | (refine wpList_load_row rfl 24 (.tmp 2) rfl _ rfl 24 _ (0, 0) _ F_14.out Try.underlying24 rfl (by kernel_rfl) ?_) | (refine wpList_load_row rfl 27 (.tmp 6) rfl _ rfl 27 _ (0, 0) _ KZ_14.out Try.underlying27 rfl (by kernel_rfl) ?_) | (refine wpList_load_row rfl 27 (.tmp 8) rfl _ rfl 27 _ (0, 0) _ KV_14.out Try.underlying27 rfl (by kernel_rfl) ?_) | (refine wpList_load_row rfl 27 (.tmp 9) rfl _ rfl 27 _ (0, 0) _ KY_14.out Try.underlying27 rfl (by kernel_rfl) ?_))
  clear qcF qcKZ qcKV qcKY
  refine (toHp_any (Ha.out.at (Nat.le_refl _) HB14.out) (Nat.le_refl _) SM.out).mono ?_
  rintro e w15 ⟨EA0, rfl, oa, ia, r0, g⟩
  have G15 := Lib.hid g; have SZ15 : Hid (w14.heap.size ≤ w15.heap.size) := Lib.hid g.size; clear g
  have F_15 : Hid (w15.heap[w.heap.size]? = some (.cells #[.slice A0 ss.length c0] 24 (0, 0))) := Lib.hid ((G15.out.block _ (by have s0 := SZ0.out; have s1 := SZ1.out; have s2 := SZ2.out; have s3 := SZ3.out; have s4 := SZ4.out; have s5 := SZ5.out; have s6 := SZ6.out; have s7 := SZ7.out; have s8 := SZ8.out; have s9 := SZ9.out; have s10 := SZ10.out; have s11 := SZ11.out; have s12 := SZ12.out; have s13 := SZ13.out; have s14 := SZ14.out; omega)).trans F_14.out)
  have OZ_15 : Hid (OT w15 w2.heap.size (.slice ZA D.length Zc) D) := Lib.hid (own_bel OZ_14.out G15.out)
  have KZ_15 : Hid (w15.heap[w3.heap.size]? = some (.cells #[.slice ZA D.length Zc] 27 (0, 0))) := Lib.hid ((G15.out.block _ (by have s0 := SZ0.out; have s1 := SZ1.out; have s2 := SZ2.out; have s3 := SZ3.out; have s4 := SZ4.out; have s5 := SZ5.out; have s6 := SZ6.out; have s7 := SZ7.out; have s8 := SZ8.out; have s9 := SZ9.out; have s10 := SZ10.out; have s11 := SZ11.out; have s12 := SZ12.out; have s13 := SZ13.out; have s14 := SZ14.out; omega)).trans KZ_14.out)
  have KV_15 : Hid (w15.heap[w5.heap.size]? = some (.cells #[.slice VA0 ss.length ss.length] 27 (0, 0))) := Lib.hid ((G15.out.block _ (by have s0 := SZ0.out; have s1 := SZ1.out; have s2 := SZ2.out; have s3 := SZ3.out; have s4 := SZ4.out; have s5 := SZ5.out; have s6 := SZ6.out; have s7 := SZ7.out; have s8 := SZ8.out; have s9 := SZ9.out; have s10 := SZ10.out; have s11 := SZ11.out; have s12 := SZ12.out; have s13 := SZ13.out; have s14 := SZ14.out; omega)).trans KV_14.out)
  have KY_15 : Hid (w15.heap[w7.heap.size]? = some (.cells #[.slice YA D.length Yc] 27 (0, 0))) := Lib.hid ((G15.out.block _ (by have s0 := SZ0.out; have s1 := SZ1.out; have s2 := SZ2.out; have s3 := SZ3.out; have s4 := SZ4.out; have s5 := SZ5.out; have s6 := SZ6.out; have s7 := SZ7.out; have s8 := SZ8.out; have s9 := SZ9.out; have s10 := SZ10.out; have s11 := SZ11.out; have s12 := SZ12.out; have s13 := SZ13.out; have s14 := SZ14.out; omega)).trans KY_14.out)
  have OY_15 : Hid (OT w15 w6.heap.size (.slice YA D.length Yc) (marksT 1 D.length)) := Lib.hid (own_bel OY_14.out G15.out)
  have HB15 : Hid (Below w.heap.size w w15) := Lib.hid (HB14.out.trans (G15.out.mono HB14.out.size))
  have OE_15 : Hid (OT w15 w14.heap.size (.slice EA0 ss.length ss.length) ss) := Lib.hid oa
  have KIE := Lib.hid ia; clear oa ia r0
  have qcF : w15.cell? ⟨w.heap.size, 0, none⟩ = some (.slice A0 ss.length c0) := by rw [cell_of_row _ _ _ _ _ _ F_15.out]; rfl
  have qcKZ : w15.cell? ⟨w3.heap.size, 0, none⟩ = some (.slice ZA D.length Zc) := by rw [cell_of_row _ _ _ _ _ _ KZ_15.out]; rfl
  have qcKV : w15.cell? ⟨w5.heap.size, 0, none⟩ = some (.slice VA0 ss.length ss.length) := by rw [cell_of_row _ _ _ _ _ _ KV_15.out]; rfl
  have qcKY : w15.cell? ⟨w7.heap.size, 0, none⟩ = some (.slice YA D.length Yc) := by rw [cell_of_row _ _ _ _ _ _ KY_15.out]; rfl
  go_wp2_with (first | (refine wpList_load_row rfl 24 (.tmp 2) rfl _ rfl 24 _ (0, 0) _ F_15.out Try.underlying24 rfl (by kernel_rfl) ?_) | (refine wpList_load_row rfl 27 (.tmp 6) rfl _ rfl 27 _ (0, 0) _ KZ_15.out Try.underlying27 rfl (by kernel_rfl) ?_) | (refine wpList_load_row rfl 27 (.tmp 8) rfl _ rfl 27 _ (0, 0) _ KV_15.out Try.underlying27 rfl (by kernel_rfl) ?_) | (refine wpList_load_row rfl 27 (.tmp 9) rfl _ rfl 27 _ (0, 0) _ KY_15.out Try.underlying27 rfl (by kernel_rfl) ?_))
  clear qcF qcKZ qcKV qcKY
  refine (P0.out SM w15 _ (OE_15.out.rit IDa.out)).mono ?_
  rintro e w16 ⟨vz, rfl, oa, g⟩
  have G16 := Lib.hid g; have SZ16 : Hid (w15.heap.size ≤ w16.heap.size) := Lib.hid g.size; clear g
  have F_16 : Hid (w16.heap[w.heap.size]? = some (.cells #[.slice A0 ss.length c0] 24 (0, 0))) := Lib.hid ((G16.out.block _ (by have s0 := SZ0.out; have s1 := SZ1.out; have s2 := SZ2.out; have s3 := SZ3.out; have s4 := SZ4.out; have s5 := SZ5.out; have s6 := SZ6.out; have s7 := SZ7.out; have s8 := SZ8.out; have s9 := SZ9.out; have s10 := SZ10.out; have s11 := SZ11.out; have s12 := SZ12.out; have s13 := SZ13.out; have s14 := SZ14.out; have s15 := SZ15.out; omega)).trans F_15.out)
  have OZ_16 : Hid (OT w16 w2.heap.size (.slice ZA D.length Zc) D) := Lib.hid (own_bel OZ_15.out G16.out)
  have KZ_16 : Hid (w16.heap[w3.heap.size]? = some (.cells #[.slice ZA D.length Zc] 27 (0, 0))) := Lib.hid ((G16.out.block _ (by have s0 := SZ0.out; have s1 := SZ1.out; have s2 := SZ2.out; have s3 := SZ3.out; have s4 := SZ4.out; have s5 := SZ5.out; have s6 := SZ6.out; have s7 := SZ7.out; have s8 := SZ8.out; have s9 := SZ9.out; have s10 := SZ10.out; have s11 := SZ11.out; have s12 := SZ12.out; have s13 := SZ13.out; have s14 := SZ14.out; have s15 := SZ15.out; omega)).trans KZ_15.out)
  have KV_16 : Hid (w16.heap[w5.heap.size]? = some (.cells #[.slice VA0 ss.length ss.length] 27 (0, 0))) := Lib.hid ((G16.out.block _ (by have s0 := SZ0.out; have s1 := SZ1.out; have s2 := SZ2.out; have s3 := SZ3.out; have s4 := SZ4.out; have s5 := SZ5.out; have s6 := SZ6.out; have s7 := SZ7.out; have s8 := SZ8.out; have s9 := SZ9.out; have s10 := SZ10.out; have s11 := SZ11.out; have s12 := SZ12.out; have s13 := SZ13.out; have s14 := SZ14.out; have s15 := SZ15.out; omega)).trans KV_15.out)
  have KY_16 : Hid (w16.heap[w7.heap.size]? = some (.cells #[.slice YA D.length Yc] 27 (0, 0))) := Lib.hid ((G16.out.block _ (by have s0 := SZ0.out; have s1 := SZ1.out; have s2 := SZ2.out; have s3 := SZ3.out; have s4 := SZ4.out; have s5 := SZ5.out; have s6 := SZ6.out; have s7 := SZ7.out; have s8 := SZ8.out; have s9 := SZ9.out; have s10 := SZ10.out; have s11 := SZ11.out; have s12 := SZ12.out; have s13 := SZ13.out; have s14 := SZ14.out; have s15 := SZ15.out; omega)).trans KY_15.out)
  have OY_16 : Hid (OT w16 w6.heap.size (.slice YA D.length Yc) (marksT 1 D.length)) := Lib.hid (own_bel OY_15.out G16.out)
  have OE_16 : Hid (OT w16 w14.heap.size (.slice EA0 ss.length ss.length) ss) := Lib.hid (own_bel OE_15.out G16.out)
  have HB16 : Hid (Below w.heap.size w w16) := Lib.hid (HB15.out.trans (G16.out.mono HB15.out.size))
  obtain ⟨CA, Cc, rfl⟩ := oa.op
  simp only [mkC2]
  have OC_16 : Hid (OT w16 w15.heap.size (.slice CA D.length Cc) D) := Lib.hid oa
  have KIC : Hid (Wi w15.heap.size w16.heap.size (.slice CA D.length Cc)) := Lib.hid (own_wi oa); clear oa
  have G17 : Hid (Below w16.heap.size w16 (w16.alloc (.cells #[.slice CA D.length Cc] 27))) := Lib.hid ((Below.refl _ _).alloc (Nat.le_refl _) _)
  have SZ17 : Hid (w16.heap.size + 1 ≤ (w16.alloc (.cells #[.slice CA D.length Cc] 27)).heap.size) := Lib.hid (by simp)
  have F_17 : Hid ((w16.alloc (.cells #[.slice CA D.length Cc] 27)).heap[w.heap.size]? = some (.cells #[.slice A0 ss.length c0] 24 (0, 0))) := Lib.hid ((G17.out.block _ (by have s0 := SZ0.out; have s1 := SZ1.out; have s2 := SZ2.out; have s3 := SZ3.out; have s4 := SZ4.out; have s5 := SZ5.out; have s6 := SZ6.out; have s7 := SZ7.out; have s8 := SZ8.out; have s9 := SZ9.out; have s10 := SZ10.out; have s11 := SZ11.out; have s12 := SZ12.out; have s13 := SZ13.out; have s14 := SZ14.out; have s15 := SZ15.out; have s16 := SZ16.out; omega)).trans F_16.out)
  have OZ_17 : Hid (OT (w16.alloc (.cells #[.slice CA D.length Cc] 27)) w2.heap.size (.slice ZA D.length Zc) D) := Lib.hid (own_bel OZ_16.out G17.out)
  have KZ_17 : Hid ((w16.alloc (.cells #[.slice CA D.length Cc] 27)).heap[w3.heap.size]? = some (.cells #[.slice ZA D.length Zc] 27 (0, 0))) := Lib.hid ((G17.out.block _ (by have s0 := SZ0.out; have s1 := SZ1.out; have s2 := SZ2.out; have s3 := SZ3.out; have s4 := SZ4.out; have s5 := SZ5.out; have s6 := SZ6.out; have s7 := SZ7.out; have s8 := SZ8.out; have s9 := SZ9.out; have s10 := SZ10.out; have s11 := SZ11.out; have s12 := SZ12.out; have s13 := SZ13.out; have s14 := SZ14.out; have s15 := SZ15.out; have s16 := SZ16.out; omega)).trans KZ_16.out)
  have KV_17 : Hid ((w16.alloc (.cells #[.slice CA D.length Cc] 27)).heap[w5.heap.size]? = some (.cells #[.slice VA0 ss.length ss.length] 27 (0, 0))) := Lib.hid ((G17.out.block _ (by have s0 := SZ0.out; have s1 := SZ1.out; have s2 := SZ2.out; have s3 := SZ3.out; have s4 := SZ4.out; have s5 := SZ5.out; have s6 := SZ6.out; have s7 := SZ7.out; have s8 := SZ8.out; have s9 := SZ9.out; have s10 := SZ10.out; have s11 := SZ11.out; have s12 := SZ12.out; have s13 := SZ13.out; have s14 := SZ14.out; have s15 := SZ15.out; have s16 := SZ16.out; omega)).trans KV_16.out)
  have KY_17 : Hid ((w16.alloc (.cells #[.slice CA D.length Cc] 27)).heap[w7.heap.size]? = some (.cells #[.slice YA D.length Yc] 27 (0, 0))) := Lib.hid ((G17.out.block _ (by have s0 := SZ0.out; have s1 := SZ1.out; have s2 := SZ2.out; have s3 := SZ3.out; have s4 := SZ4.out; have s5 := SZ5.out; have s6 := SZ6.out; have s7 := SZ7.out; have s8 := SZ8.out; have s9 := SZ9.out; have s10 := SZ10.out; have s11 := SZ11.out; have s12 := SZ12.out; have s13 := SZ13.out; have s14 := SZ14.out; have s15 := SZ15.out; have s16 := SZ16.out; omega)).trans KY_16.out)
  have OY_17 : Hid (OT (w16.alloc (.cells #[.slice CA D.length Cc] 27)) w6.heap.size (.slice YA D.length Yc) (marksT 1 D.length)) := Lib.hid (own_bel OY_16.out G17.out)
  have OC_17 : Hid (OT (w16.alloc (.cells #[.slice CA D.length Cc] 27)) w15.heap.size (.slice CA D.length Cc) D) := Lib.hid (own_bel OC_16.out G17.out)
  have HB17 : Hid (Below w.heap.size w (w16.alloc (.cells #[.slice CA D.length Cc] 27))) := Lib.hid (HB16.out.trans (G17.out.mono HB16.out.size))
  have KC_17 : Hid ((w16.alloc (.cells #[.slice CA D.length Cc] 27)).heap[w16.heap.size]? = some (.cells #[.slice CA D.length Cc] 27 (0, 0))) := Lib.hid (heap_alloc_new w16 _)
  have qcF : (w16.alloc (.cells #[.slice CA D.length Cc] 27)).cell? ⟨w.heap.size, 0, none⟩ = some (.slice A0 ss.length c0) := by rw [cell_of_row _ _ _ _ _ _ F_17.out]; rfl
  have qcKZ : (w16.alloc (.cells #[.slice CA D.length Cc] 27)).cell? ⟨w3.heap.size, 0, none⟩ = some (.slice ZA D.length Zc) := by rw [cell_of_row _ _ _ _ _ _ KZ_17.out]; rfl
  have qcKV : (w16.alloc (.cells #[.slice CA D.length Cc] 27)).cell? ⟨w5.heap.size, 0, none⟩ = some (.slice VA0 ss.length ss.length) := by rw [cell_of_row _ _ _ _ _ _ KV_17.out]; rfl
  have qcKY : (w16.alloc (.cells #[.slice CA D.length Cc] 27)).cell? ⟨w7.heap.size, 0, none⟩ = some (.slice YA D.length Yc) := by rw [cell_of_row _ _ _ _ _ _ KY_17.out]; rfl
  have qcKC : (w16.alloc (.cells #[.slice CA D.length Cc] 27)).cell? ⟨w16.heap.size, 0, none⟩ = some (.slice CA D.length Cc) := by rw [cell_of_row _ _ _ _ _ _ KC_17.out]; rfl
  go_wp2_with (first | (refine wpList_load_row rfl 24 (.tmp 2) rfl _ rfl 24 _ (0, 0) _ F_17.out Try.underlying24 rfl (by kernel_rfl) ?_) | (refine wpList_load_row rfl 27 (.tmp 6) rfl _ rfl 27 _ (0, 0) _ KZ_17.out Try.underlying27 rfl (by kernel_rfl) ?_) | (refine wpList_load_row rfl 27 (.tmp 8) rfl _ rfl 27 _ (0, 0) _ KV_17.out Try.underlying27 rfl (by kernel_rfl) ?_) | (refine wpList_load_row rfl 27 (.tmp 9) rfl _ rfl 27 _ (0, 0) _ KY_17.out Try.underlying27 rfl (by kernel_rfl) ?_) | (refine wpList_load_row rfl 27 (.tmp 14) rfl _ rfl 27 _ (0, 0) _ KC_17.out Try.underlying27 rfl (by kernel_rfl) ?_))
  clear qcF qcKZ qcKV qcKY qcKC
  generalize (w16.alloc (.cells #[.slice CA D.length Cc] 27)) = w17 at *
  refine (eqHp_any (OC_17.out.rit ID.out) (OZ_17.out.rit ID.out) (Nat.le_refl _)).mono ?_
  rintro e w18 ⟨rfl, g⟩
  have G18 := Lib.hid g; have SZ18 : Hid (w17.heap.size ≤ w18.heap.size) := Lib.hid g.size; clear g
  have F_18 : Hid (w18.heap[w.heap.size]? = some (.cells #[.slice A0 ss.length c0] 24 (0, 0))) := Lib.hid ((G18.out.block _ (by have s0 := SZ0.out; have s1 := SZ1.out; have s2 := SZ2.out; have s3 := SZ3.out; have s4 := SZ4.out; have s5 := SZ5.out; have s6 := SZ6.out; have s7 := SZ7.out; have s8 := SZ8.out; have s9 := SZ9.out; have s10 := SZ10.out; have s11 := SZ11.out; have s12 := SZ12.out; have s13 := SZ13.out; have s14 := SZ14.out; have s15 := SZ15.out; have s16 := SZ16.out; have s17 := SZ17.out; omega)).trans F_17.out)
  have OZ_18 : Hid (OT w18 w2.heap.size (.slice ZA D.length Zc) D) := Lib.hid (own_bel OZ_17.out G18.out)
  have KZ_18 : Hid (w18.heap[w3.heap.size]? = some (.cells #[.slice ZA D.length Zc] 27 (0, 0))) := Lib.hid ((G18.out.block _ (by have s0 := SZ0.out; have s1 := SZ1.out; have s2 := SZ2.out; have s3 := SZ3.out; have s4 := SZ4.out; have s5 := SZ5.out; have s6 := SZ6.out; have s7 := SZ7.out; have s8 := SZ8.out; have s9 := SZ9.out; have s10 := SZ10.out; have s11 := SZ11.out; have s12 := SZ12.out; have s13 := SZ13.out; have s14 := SZ14.out; have s15 := SZ15.out; have s16 := SZ16.out; have s17 := SZ17.out; omega)).trans KZ_17.out)
  have KV_18 : Hid (w18.heap[w5.heap.size]? = some (.cells #[.slice VA0 ss.length ss.length] 27 (0, 0))) := Lib.hid ((G18.out.block _ (by have s0 := SZ0.out; have s1 := SZ1.out; have s2 := SZ2.out; have s3 := SZ3.out; have s4 := SZ4.out; have s5 := SZ5.out; have s6 := SZ6.out; have s7 := SZ7.out; have s8 := SZ8.out; have s9 := SZ9.out; have s10 := SZ10.out; have s11 := SZ11.out; have s12 := SZ12.out; have s13 := SZ13.out; have s14 := SZ14.out; have s15 := SZ15.out; have s16 := SZ16.out; have s17 := SZ17.out; omega)).trans KV_17.out)
  have KY_18 : Hid (w18.heap[w7.heap.size]? = some (.cells #[.slice YA D.length Yc] 27 (0, 0))) := Lib.hid ((G18.out.block _ (by have s0 := SZ0.out; have s1 := SZ1.out; have s2 := SZ2.out; have s3 := SZ3.out; have s4 := SZ4.out; have s5 := SZ5.out; have s6 := SZ6.out; have s7 := SZ7.out; have s8 := SZ8.out; have s9 := SZ9.out; have s10 := SZ10.out; have s11 := SZ11.out; have s12 := SZ12.out; have s13 := SZ13.out; have s14 := SZ14.out; have s15 := SZ15.out; have s16 := SZ16.out; have s17 := SZ17.out; omega)).trans KY_17.out)
  have OY_18 : Hid (OT w18 w6.heap.size (.slice YA D.length Yc) (marksT 1 D.length)) := Lib.hid (own_bel OY_17.out G18.out)
  have OC_18 : Hid (OT w18 w15.heap.size (.slice CA D.length Cc) D) := Lib.hid (own_bel OC_17.out G18.out)
  have KC_18 : Hid (w18.heap[w16.heap.size]? = some (.cells #[.slice CA D.length Cc] 27 (0, 0))) := Lib.hid ((G18.out.block _ (by have s0 := SZ0.out; have s1 := SZ1.out; have s2 := SZ2.out; have s3 := SZ3.out; have s4 := SZ4.out; have s5 := SZ5.out; have s6 := SZ6.out; have s7 := SZ7.out; have s8 := SZ8.out; have s9 := SZ9.out; have s10 := SZ10.out; have s11 := SZ11.out; have s12 := SZ12.out; have s13 := SZ13.out; have s14 := SZ14.out; have s15 := SZ15.out; have s16 := SZ16.out; have s17 := SZ17.out; omega)).trans KC_17.out)
  have HB18 : Hid (Below w.heap.size w w18) := Lib.hid (HB17.out.trans (G18.out.mono HB17.out.size))
  have qcF : w18.cell? ⟨w.heap.size, 0, none⟩ = some (.slice A0 ss.length c0) := by rw [cell_of_row _ _ _ _ _ _ F_18.out]; rfl
  have qcKZ : w18.cell? ⟨w3.heap.size, 0, none⟩ = some (.slice ZA D.length Zc) := by rw [cell_of_row _ _ _ _ _ _ KZ_18.out]; rfl
  have qcKV : w18.cell? ⟨w5.heap.size, 0, none⟩ = some (.slice VA0 ss.length ss.length) := by rw [cell_of_row _ _ _ _ _ _ KV_18.out]; rfl
  have qcKY : w18.cell? ⟨w7.heap.size, 0, none⟩ = some (.slice YA D.length Yc) := by rw [cell_of_row _ _ _ _ _ _ KY_18.out]; rfl
  have qcKC : w18.cell? ⟨w16.heap.size, 0, none⟩ = some (.slice CA D.length Cc) := by rw [cell_of_row _ _ _ _ _ _ KC_18.out]; rfl
  go_wp2_with (first | (refine wpList_load_row rfl 24 (.tmp 2) rfl _ rfl 24 _ (0, 0) _ F_18.out Try.underlying24 rfl (by kernel_rfl) ?_) | (refine wpList_load_row rfl 27 (.tmp 6) rfl _ rfl 27 _ (0, 0) _ KZ_18.out Try.underlying27 rfl (by kernel_rfl) ?_) | (refine wpList_load_row rfl 27 (.tmp 8) rfl _ rfl 27 _ (0, 0) _ KV_18.out Try.underlying27 rfl (by kernel_rfl) ?_) | (refine wpList_load_row rfl 27 (.tmp 9) rfl _ rfl 27 _ (0, 0) _ KY_18.out Try.underlying27 rfl (by kernel_rfl) ?_) | (refine wpList_load_row rfl 27 (.tmp 14) rfl _ rfl 27 _ (0, 0) _ KC_18.out Try.underlying27 rfl (by kernel_rfl) ?_))
  clear qcF qcKZ qcKV qcKY qcKC
  refine (heldHp_any 1 OY_18.out (by omega) (by have h1 := DK.out.2; omega)).mono ?_
  rintro e w19 ⟨rfl, g⟩
  have G19 := Lib.hid g; have SZ19 : Hid (w18.heap.size ≤ w19.heap.size) := Lib.hid g.size; clear g
  have F_19 : Hid (w19.heap[w.heap.size]? = some (.cells #[.slice A0 ss.length c0] 24 (0, 0))) := Lib.hid ((G19.out.block _ (by have s0 := SZ0.out; have s1 := SZ1.out; have s2 := SZ2.out; have s3 := SZ3.out; have s4 := SZ4.out; have s5 := SZ5.out; have s6 := SZ6.out; have s7 := SZ7.out; have s8 := SZ8.out; have s9 := SZ9.out; have s10 := SZ10.out; have s11 := SZ11.out; have s12 := SZ12.out; have s13 := SZ13.out; have s14 := SZ14.out; have s15 := SZ15.out; have s16 := SZ16.out; have s17 := SZ17.out; have s18 := SZ18.out; omega)).trans F_18.out)
  have OZ_19 : Hid (OT w19 w2.heap.size (.slice ZA D.length Zc) D) := Lib.hid (own_bel OZ_18.out G19.out)
  have KZ_19 : Hid (w19.heap[w3.heap.size]? = some (.cells #[.slice ZA D.length Zc] 27 (0, 0))) := Lib.hid ((G19.out.block _ (by have s0 := SZ0.out; have s1 := SZ1.out; have s2 := SZ2.out; have s3 := SZ3.out; have s4 := SZ4.out; have s5 := SZ5.out; have s6 := SZ6.out; have s7 := SZ7.out; have s8 := SZ8.out; have s9 := SZ9.out; have s10 := SZ10.out; have s11 := SZ11.out; have s12 := SZ12.out; have s13 := SZ13.out; have s14 := SZ14.out; have s15 := SZ15.out; have s16 := SZ16.out; have s17 := SZ17.out; have s18 := SZ18.out; omega)).trans KZ_18.out)
  have KV_19 : Hid (w19.heap[w5.heap.size]? = some (.cells #[.slice VA0 ss.length ss.length] 27 (0, 0))) := Lib.hid ((G19.out.block _ (by have s0 := SZ0.out; have s1 := SZ1.out; have s2 := SZ2.out; have s3 := SZ3.out; have s4 := SZ4.out; have s5 := SZ5.out; have s6 := SZ6.out; have s7 := SZ7.out; have s8 := SZ8.out; have s9 := SZ9.out; have s10 := SZ10.out; have s11 := SZ11.out; have s12 := SZ12.out; have s13 := SZ13.out; have s14 := SZ14.out; have s15 := SZ15.out; have s16 := SZ16.out; have s17 := SZ17.out; have s18 := SZ18.out; omega)).trans KV_18.out)
  have KY_19 : Hid (w19.heap[w7.heap.size]? = some (.cells #[.slice YA D.length Yc] 27 (0, 0))) := Lib.hid ((G19.out.block _ (by have s0 := SZ0.out; have s1 := SZ1.out; have s2 := SZ2.out; have s3 := SZ3.out; have s4 := SZ4.out; have s5 := SZ5.out; have s6 := SZ6.out; have s7 := SZ7.out; have s8 := SZ8.out; have s9 := SZ9.out; have s10 := SZ10.out; have s11 := SZ11.out; have s12 := SZ12.out; have s13 := SZ13.out; have s14 := SZ14.out; have s15 := SZ15.out; have s16 := SZ16.out; have s17 := SZ17.out; have s18 := SZ18.out; omega)).trans KY_18.out)
  have OY_19 : Hid (OT w19 w6.heap.size (.slice YA D.length Yc) (marksT 1 D.length)) := Lib.hid (own_bel OY_18.out G19.out)
  have OC_19 : Hid (OT w19 w15.heap.size (.slice CA D.length Cc) D) := Lib.hid (own_bel OC_18.out G19.out)
  have KC_19 : Hid (w19.heap[w16.heap.size]? = some (.cells #[.slice CA D.length Cc] 27 (0, 0))) := Lib.hid ((G19.out.block _ (by have s0 := SZ0.out; have s1 := SZ1.out; have s2 := SZ2.out; have s3 := SZ3.out; have s4 := SZ4.out; have s5 := SZ5.out; have s6 := SZ6.out; have s7 := SZ7.out; have s8 := SZ8.out; have s9 := SZ9.out; have s10 := SZ10.out; have s11 := SZ11.out; have s12 := SZ12.out; have s13 := SZ13.out; have s14 := SZ14.out; have s15 := SZ15.out; have s16 := SZ16.out; have s17 := SZ17.out; have s18 := SZ18.out; omega)).trans KC_18.out)
  have HB19 : Hid (Below w.heap.size w w19) := Lib.hid (HB18.out.trans (G19.out.mono HB18.out.size))
  have qcF : w19.cell? ⟨w.heap.size, 0, none⟩ = some (.slice A0 ss.length c0) := by rw [cell_of_row _ _ _ _ _ _ F_19.out]; rfl
  have qcKZ : w19.cell? ⟨w3.heap.size, 0, none⟩ = some (.slice ZA D.length Zc) := by rw [cell_of_row _ _ _ _ _ _ KZ_19.out]; rfl
  have qcKV : w19.cell? ⟨w5.heap.size, 0, none⟩ = some (.slice VA0 ss.length ss.length) := by rw [cell_of_row _ _ _ _ _ _ KV_19.out]; rfl
  have qcKY : w19.cell? ⟨w7.heap.size, 0, none⟩ = some (.slice YA D.length Yc) := by rw [cell_of_row _ _ _ _ _ _ KY_19.out]; rfl
  have qcKC : w19.cell? ⟨w16.heap.size, 0, none⟩ = some (.slice CA D.length Cc) := by rw [cell_of_row _ _ _ _ _ _ KC_19.out]; rfl
  go_wp2_with (first | (refine wpList_load_row rfl 24 (.tmp 2) rfl _ rfl 24 _ (0, 0) _ F_19.out Try.underlying24 rfl (by kernel_rfl) ?_) | (refine wpList_load_row rfl 27 (.tmp 6) rfl _ rfl 27 _ (0, 0) _ KZ_19.out Try.underlying27 rfl (by kernel_rfl) ?_) | (refine wpList_load_row rfl 27 (.tmp 8) rfl _ rfl 27 _ (0, 0) _ KV_19.out Try.underlying27 rfl (by kernel_rfl) ?_) | (refine wpList_load_row rfl 27 (.tmp 9) rfl _ rfl 27 _ (0, 0) _ KY_19.out Try.underlying27 rfl (by kernel_rfl) ?_) | (refine wpList_load_row rfl 27 (.tmp 14) rfl _ rfl 27 _ (0, 0) _ KC_19.out Try.underlying27 rfl (by kernel_rfl) ?_))
  clear qcF qcKZ qcKV qcKY qcKC
  go_ret
  exact ⟨rfl, HB19.out⟩
theorem own : ownKnob Try.prog.godebug = none := by kernel_rfl
theorem laidOut : laidOutB Try.prog = true := by kernel_rfl
set_option maxRecDepth 100000 in
theorem lifted (os : Os) (started : os.Started) (H : Type) (enc : TypeId × Value → H) :
    ReturnsInHanded {} Try.checked os 7 .any (Rows.fnExactDropNameSpec.pre6 enc Try.prog Try.f7 Rows.fnExactDropNameRow.domain false) (Rows.fnExactDropNameSpec.post enc Try.prog Try.f7 false true false false) := by
  refine returnsInHanded_of_change (C := Try.checked) own started (by kernel_rfl) Try.func7
    (ChangeSpec.witness6 (enc := enc) (C := Try.checked) false ⟨#[], #[.agg #[.slice none 0 0], .int .i64 0], []⟩ 8 (by kernel_rfl) (by kernel_rfl) (by kernel_rfl) (by kernel_rfl)) ?_
  intro W base args ds gs before hval0 hW hcnd _
  have hval : ∀ (j : Nat) t v, Try.f7.params[j]? = some t → args[j]? = some v → Value.okWide Try.prog W .any base t v := hval0
  have hW' := hW
  obtain ⟨p, q, hA0, hV, rfl, hfz, hnd⟩ := hW
  have hA : DataW.TrodAll enc Try.prog W 0 (fun _ => true) true Try.f7.params.toList args.toList ds p := hA0
  rw [Try.params7] at hA hval
  obtain ⟨v0, vs0, d0, ds0, p0, q0, hargs, rfl, rfl, h0, r0⟩ := trodAll_cons hA
  obtain ⟨v1, vs1, d1, ds1, p1, q1, rfl, rfl, rfl, h1, r1⟩ := trodAll_cons r0
  obtain ⟨rfl, rfl, rfl⟩ := trodAll_nil r1
  obtain rfl : args = #[v0, v1] := by cases args; simp_all
  obtain ⟨rfl, rfl⟩ := trodVars_none hV
  have k0 := h0
  have lt0 : ∀ x ∈ p0, x.block < W.heap.size := by obtain ⟨m, hm⟩ := k0; exact DataW.trod_lt m _ _ _ hm
  obtain ⟨v0_0, xs0_0, rfl, g0⟩ := open_heap (hval 0 24 v0 rfl rfl) h0
  obtain ⟨a1, rfl, rfl, rfl, g1⟩ := open_int Try.underlying2 (hval 1 2 v1 rfl rfl) h1
  clear hA0 hval0
  refine (walk W _ xs0_0 a1 g0 g1).mono fun e W' ⟨he, bel⟩ => ?_
  subst he
  exact ⟨_, rfl, _, _, _, [], _, [], hW', (trodAll_cons_mk (shut_bool Try.underlying4 _) trodAll_mk0), (trodAll_cons_mk (Below.trod laidOut (by kernel_rfl) (of_decide_eq_true (by kernel_rfl)) k0 bel lt0) (trodAll_cons_mk (shut_int Try.underlying2 g1) trodAll_mk0)), rfl, bel.frame _, fun h => by cases h⟩
theorem closed : joinedFacts Try.pinned.checked.prog 7 Try.f7 Rows.fnExactDropNameSpec Rows.fnExactDropNameRow = true := by
  unfold joinedFacts
  rw [mayE, lifF, mkP]
  kernel_rfl
theorem over : Rows.fnExactDropNameRow.holds Try.pinned (OpenSpec.ofChange Rows.fnExactDropNameSpec) :=
  OpenClaim.holds_of_wide 7 Try.f7 rfl rfl rfl rfl rfl rfl rfl ⟨rfl, rfl, rfl, rfl, rfl⟩ rfl rfl rfl rfl rfl (by kernel_rfl) Try.func7 closed
    (of_decide_eq_true (by kernel_rfl)) (by unfold Func.isWrapper; rw [if_neg (of_decide_eq_false (by kernel_rfl))]; exact ⟨rfl, rfl⟩)
    (fun os started H enc _ => lifted os started H enc)
theorem proved : Rows.FnExactDropNameSaid := over
end Go.Proofs.Ytabnglimchjgpaa.fnExactDropName
