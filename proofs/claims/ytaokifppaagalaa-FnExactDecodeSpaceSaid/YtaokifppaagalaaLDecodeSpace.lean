/- The statement of the law FnExactDecodeSpace: whatever the input, the program's function answers as the model's, in memory of its own, and the input reads as it did. Its conditions are the given statement's own; nothing is added. -/
import Derived.Test.YtaokifppaagalaaDecI
import Derived.Test.YtaokifppaagalaaMrS
import Derived.ProofKit
import Derived.OpenShut
import Derived.ShutString
import Derived.ChangeOld
import Derived.Below
namespace Go.Proofs.Ytaokifppaagalaa.fnExactDecodeSpace
open Go.ChangeShapes Go.WideShapes Go.ChangeAt Go.RowKit
open Go.ChangeMaps (open_string shut_string)
set_option linter.unusedVariables false
theorem own : ownKnob Try.prog.godebug = none := by kernel_rfl
theorem specDec_is {s : ByteArray} {D M : List Int} {b : Bool} (hD : ansD s = D) (hM : ansM s = M) (hb : decOk s = b) (w : World) (hs : s.size ≤ 1048576) : Calls Try.prog 15 #[.string s] w (AnsAt D M (.bool b) w) := by
  subst hD hM hb; exact specDec_any s w hs
theorem implDec_is {s : ByteArray} {D M : List Int} {b : Bool} (hD : ansD s = D) (hM : ansM s = M) (hb : decOk s = b) (w : World) (hs : s.size ≤ 1048576) : Calls Try.prog 16 #[.string s] w (AnsAt D M (.bool b) w) := by
  subst hD hM hb; exact implDec_any s w hs
theorem ansD_in (s : ByteArray) : ∀ x ∈ ansD s, InI x := by
  unfold ansD; split
  · exact decD_in s _
  · intro x hx; simp at hx
theorem ansM_in (s : ByteArray) : ∀ x ∈ ansM s, InI x := by
  unfold ansM; split
  · exact decI_in s _
  · intro x hx; simp at hx
theorem ansD_le (s : ByteArray) (h : s.size ≤ 1048576) : (ansD s).length ≤ 1048576 := by
  unfold ansD; split
  · rw [decD_len]; unfold decK; omega
  · simp
theorem ansM_le (s : ByteArray) (h : s.size ≤ 1048576) : (ansM s).length ≤ 1048576 := by
  unfold ansM; split
  · rw [decI_len]; unfold decK; omega
  · simp
set_option maxHeartbeats 8000000 in
set_option maxRecDepth 100000 in
theorem walk (s : ByteArray) (w0 : s.size ≤ maxLen) (w : World) :
    Calls Try.prog 3 #[.string s] w (GivesB (.bool true) w) := by
  unfold maxLen at w0
  by_cases hs : s.size ≤ 1048576
  rotate_left
  · go_enter Try.func3, Try.ntmps3
    go_wp2_with fail
    go_ret
    exact ⟨rfl, Below.refl _ _⟩
  have Sd := Lib.hid hs
  obtain ⟨D, hD⟩ : ∃ D, ansD s = D := ⟨_, rfl⟩
  obtain ⟨M, hM⟩ : ∃ M, ansM s = M := ⟨_, rfl⟩
  obtain ⟨ok, hE⟩ : ∃ b, decOk s = b := ⟨_, rfl⟩
  have HD := Lib.hid hD; have HM := Lib.hid hM; have HE := Lib.hid hE
  have ID : Hid (∀ x ∈ D, InI x) := Lib.hid (hD ▸ ansD_in s)
  have IM : Hid (∀ x ∈ M, InI x) := Lib.hid (hM ▸ ansM_in s)
  have LD : Hid (D.length ≤ 1048576) := Lib.hid (hD ▸ ansD_le s hs)
  have LM : Hid (M.length ≤ 1048576) := Lib.hid (hM ▸ ansM_le s hs)
  clear hD hM hE
  have HB0 : Hid (Below w.heap.size w w) := Lib.hid (Below.refl _ _)
  have SZ0 : Hid (w.heap.size ≤ w.heap.size) := Lib.hid (Nat.le_refl _)
  go_enter Try.func3, Try.ntmps3
  go_wp2_with fail
  refine (specDec_is HD.out HM.out HE.out _ Sd.out).mono ?_
  rintro e w1 ⟨ZA0, ZA1, Zc0, Zc1, rfl, oa, ob, hap, g⟩
  have G1 := Lib.hid g; have SZ1 : Hid (w.heap.size ≤ w1.heap.size) := Lib.hid g.size; clear g
  have HB1 : Hid (Below w.heap.size w w1) := Lib.hid (HB0.out.trans (G1.out.mono HB0.out.size))
  have OZ0_1 : Hid (OI w1 w.heap.size (.slice ZA0 D.length Zc0) D) := Lib.hid oa; clear oa
  have OZ1_1 : Hid (OI w1 w.heap.size (.slice ZA1 M.length Zc1) M) := Lib.hid ob; clear ob
  have XZ := Lib.hid hap; clear hap
  have IZ0 := Lib.hid OZ0_1.out.wi; have IZ1 := Lib.hid OZ1_1.out.wi
  have G2 : Hid (Below w1.heap.size w1 (w1.alloc (.cells #[.slice ZA0 D.length Zc0, .slice ZA1 M.length Zc1] 24))) := Lib.hid ((Below.refl _ _).alloc (Nat.le_refl _) _)
  have SZ2 : Hid (w1.heap.size + 1 ≤ (w1.alloc (.cells #[.slice ZA0 D.length Zc0, .slice ZA1 M.length Zc1] 24)).heap.size) := Lib.hid (by simp)
  have OZ0_2 : Hid (OI (w1.alloc (.cells #[.slice ZA0 D.length Zc0, .slice ZA1 M.length Zc1] 24)) w.heap.size (.slice ZA0 D.length Zc0) D) := Lib.hid (OZ0_1.out.bel G2.out)
  have OZ1_2 : Hid (OI (w1.alloc (.cells #[.slice ZA0 D.length Zc0, .slice ZA1 M.length Zc1] 24)) w.heap.size (.slice ZA1 M.length Zc1) M) := Lib.hid (OZ1_1.out.bel G2.out)
  have HB2 : Hid (Below w.heap.size w (w1.alloc (.cells #[.slice ZA0 D.length Zc0, .slice ZA1 M.length Zc1] 24))) := Lib.hid (HB1.out.trans (G2.out.mono HB1.out.size))
  have Q0_2 : Hid ((w1.alloc (.cells #[.slice ZA0 D.length Zc0, .slice ZA1 M.length Zc1] 24)).cell? ⟨w1.heap.size, 0, none⟩ = some (.slice ZA0 D.length Zc0)) := Lib.hid (by rw [cell_of_row _ _ _ _ _ _ (heap_alloc_new w1 _)]; rfl)
  have Q1_2 : Hid ((w1.alloc (.cells #[.slice ZA0 D.length Zc0, .slice ZA1 M.length Zc1] 24)).cell? ⟨w1.heap.size, 1, none⟩ = some (.slice ZA1 M.length Zc1)) := Lib.hid (by rw [cell_of_row _ _ _ _ _ _ (heap_alloc_new w1 _)]; rfl)
  have qQ0 := Q0_2.out
  have qQ1 := Q1_2.out
  go_wp2_with fail
  clear qQ0 qQ1
  generalize (w1.alloc (.cells #[.slice ZA0 D.length Zc0, .slice ZA1 M.length Zc1] 24)) = w2 at *
  refine (implDec_is HD.out HM.out HE.out _ Sd.out).mono ?_
  rintro e w3 ⟨YA0, YA1, Yc0, Yc1, rfl, oa, ob, hap, g⟩
  have G3 := Lib.hid g; have SZ3 : Hid (w2.heap.size ≤ w3.heap.size) := Lib.hid g.size; clear g
  have OZ0_3 : Hid (OI w3 w.heap.size (.slice ZA0 D.length Zc0) D) := Lib.hid (OZ0_2.out.bel G3.out)
  have OZ1_3 : Hid (OI w3 w.heap.size (.slice ZA1 M.length Zc1) M) := Lib.hid (OZ1_2.out.bel G3.out)
  have Q0_3 : Hid (w3.cell? ⟨w1.heap.size, 0, none⟩ = some (.slice ZA0 D.length Zc0)) := Lib.hid (oldcell G3.out Q0_2.out)
  have Q1_3 : Hid (w3.cell? ⟨w1.heap.size, 1, none⟩ = some (.slice ZA1 M.length Zc1)) := Lib.hid (oldcell G3.out Q1_2.out)
  have HB3 : Hid (Below w.heap.size w w3) := Lib.hid (HB2.out.trans (G3.out.mono HB2.out.size))
  have OY0_3 : Hid (OI w3 w2.heap.size (.slice YA0 D.length Yc0) D) := Lib.hid oa; clear oa
  have OY1_3 : Hid (OI w3 w2.heap.size (.slice YA1 M.length Yc1) M) := Lib.hid ob; clear ob
  have XY := Lib.hid hap; clear hap
  have IY0 := Lib.hid OY0_3.out.wi; have IY1 := Lib.hid OY1_3.out.wi
  have G4 : Hid (Below w3.heap.size w3 (w3.alloc (.cells #[.slice YA0 D.length Yc0, .slice YA1 M.length Yc1] 24))) := Lib.hid ((Below.refl _ _).alloc (Nat.le_refl _) _)
  have SZ4 : Hid (w3.heap.size + 1 ≤ (w3.alloc (.cells #[.slice YA0 D.length Yc0, .slice YA1 M.length Yc1] 24)).heap.size) := Lib.hid (by simp)
  have OZ0_4 : Hid (OI (w3.alloc (.cells #[.slice YA0 D.length Yc0, .slice YA1 M.length Yc1] 24)) w.heap.size (.slice ZA0 D.length Zc0) D) := Lib.hid (OZ0_3.out.bel G4.out)
  have OZ1_4 : Hid (OI (w3.alloc (.cells #[.slice YA0 D.length Yc0, .slice YA1 M.length Yc1] 24)) w.heap.size (.slice ZA1 M.length Zc1) M) := Lib.hid (OZ1_3.out.bel G4.out)
  have Q0_4 : Hid ((w3.alloc (.cells #[.slice YA0 D.length Yc0, .slice YA1 M.length Yc1] 24)).cell? ⟨w1.heap.size, 0, none⟩ = some (.slice ZA0 D.length Zc0)) := Lib.hid (oldcell G4.out Q0_3.out)
  have Q1_4 : Hid ((w3.alloc (.cells #[.slice YA0 D.length Yc0, .slice YA1 M.length Yc1] 24)).cell? ⟨w1.heap.size, 1, none⟩ = some (.slice ZA1 M.length Zc1)) := Lib.hid (oldcell G4.out Q1_3.out)
  have OY0_4 : Hid (OI (w3.alloc (.cells #[.slice YA0 D.length Yc0, .slice YA1 M.length Yc1] 24)) w2.heap.size (.slice YA0 D.length Yc0) D) := Lib.hid (OY0_3.out.bel G4.out)
  have OY1_4 : Hid (OI (w3.alloc (.cells #[.slice YA0 D.length Yc0, .slice YA1 M.length Yc1] 24)) w2.heap.size (.slice YA1 M.length Yc1) M) := Lib.hid (OY1_3.out.bel G4.out)
  have HB4 : Hid (Below w.heap.size w (w3.alloc (.cells #[.slice YA0 D.length Yc0, .slice YA1 M.length Yc1] 24))) := Lib.hid (HB3.out.trans (G4.out.mono HB3.out.size))
  have S0_4 : Hid ((w3.alloc (.cells #[.slice YA0 D.length Yc0, .slice YA1 M.length Yc1] 24)).cell? ⟨w3.heap.size, 0, none⟩ = some (.slice YA0 D.length Yc0)) := Lib.hid (by rw [cell_of_row _ _ _ _ _ _ (heap_alloc_new w3 _)]; rfl)
  have S1_4 : Hid ((w3.alloc (.cells #[.slice YA0 D.length Yc0, .slice YA1 M.length Yc1] 24)).cell? ⟨w3.heap.size, 1, none⟩ = some (.slice YA1 M.length Yc1)) := Lib.hid (by rw [cell_of_row _ _ _ _ _ _ (heap_alloc_new w3 _)]; rfl)
  have qQ0 := Q0_4.out
  have qQ1 := Q1_4.out
  have qS0 := S0_4.out
  have qS1 := S1_4.out
  go_wp2_with fail
  clear qQ0 qQ1 qS0 qS1
  generalize (w3.alloc (.cells #[.slice YA0 D.length Yc0, .slice YA1 M.length Yc1] 24)) = w4 at *
  refine (eqSpace_any (OY0_4.out.ri ID.out) (OY1_4.out.ri IM.out) (OZ0_4.out.ri ID.out) (OZ1_4.out.ri IM.out) (Nat.le_refl _)).mono ?_
  rintro e w5 ⟨rfl, g⟩
  have G5 := Lib.hid g; have SZ5 : Hid (w4.heap.size ≤ w5.heap.size) := Lib.hid g.size; clear g
  have OZ0_5 : Hid (OI w5 w.heap.size (.slice ZA0 D.length Zc0) D) := Lib.hid (OZ0_4.out.bel G5.out)
  have OZ1_5 : Hid (OI w5 w.heap.size (.slice ZA1 M.length Zc1) M) := Lib.hid (OZ1_4.out.bel G5.out)
  have Q0_5 : Hid (w5.cell? ⟨w1.heap.size, 0, none⟩ = some (.slice ZA0 D.length Zc0)) := Lib.hid (oldcell G5.out Q0_4.out)
  have Q1_5 : Hid (w5.cell? ⟨w1.heap.size, 1, none⟩ = some (.slice ZA1 M.length Zc1)) := Lib.hid (oldcell G5.out Q1_4.out)
  have OY0_5 : Hid (OI w5 w2.heap.size (.slice YA0 D.length Yc0) D) := Lib.hid (OY0_4.out.bel G5.out)
  have OY1_5 : Hid (OI w5 w2.heap.size (.slice YA1 M.length Yc1) M) := Lib.hid (OY1_4.out.bel G5.out)
  have S0_5 : Hid (w5.cell? ⟨w3.heap.size, 0, none⟩ = some (.slice YA0 D.length Yc0)) := Lib.hid (oldcell G5.out S0_4.out)
  have S1_5 : Hid (w5.cell? ⟨w3.heap.size, 1, none⟩ = some (.slice YA1 M.length Yc1)) := Lib.hid (oldcell G5.out S1_4.out)
  have HB5 : Hid (Below w.heap.size w w5) := Lib.hid (HB4.out.trans (G5.out.mono HB4.out.size))
  have qQ0 := Q0_5.out
  have qQ1 := Q1_5.out
  have qS0 := S0_5.out
  have qS1 := S1_5.out
  go_wp2_with fail
  clear qQ0 qQ1 qS0 qS1
  refine (markSpace_any (lo := w2.heap.size) (hi := w3.heap.size) OY0_5.out OY1_5.out IY0.out IY1.out XY.out (by have s0 := SZ0.out; have s1 := SZ1.out; have s2 := SZ2.out; have s3 := SZ3.out; have s4 := SZ4.out; have s5 := SZ5.out; omega) 1 (by have h1 := LD.out; have h2 := LM.out; omega)).mono ?_
  rintro e w6 ⟨rfl, oa, ob, mm⟩
  have Mv6 : Hid (Mv w2.heap.size w3.heap.size w5 w6) := Lib.hid (mm)
  have SZ6 : Hid (w5.heap.size ≤ w6.heap.size) := Lib.hid Mv6.out.2.2.2.1
  have OZ0_6 : Hid (OI w6 w.heap.size (.slice ZA0 D.length Zc0) D) := Lib.hid (OZ0_5.out.mv Mv6.out (fun g hg => by have := IZ0.out g hg; have s0 := SZ0.out; have s1 := SZ1.out; have s2 := SZ2.out; have s3 := SZ3.out; have s4 := SZ4.out; have s5 := SZ5.out; have s6 := SZ6.out; omega))
  have OZ1_6 : Hid (OI w6 w.heap.size (.slice ZA1 M.length Zc1) M) := Lib.hid (OZ1_5.out.mv Mv6.out (fun g hg => by have := IZ1.out g hg; have s0 := SZ0.out; have s1 := SZ1.out; have s2 := SZ2.out; have s3 := SZ3.out; have s4 := SZ4.out; have s5 := SZ5.out; have s6 := SZ6.out; omega))
  have Q0_6 : Hid (w6.cell? ⟨w1.heap.size, 0, none⟩ = some (.slice ZA0 D.length Zc0)) := Lib.hid (Mv6.out.cell Q0_5.out (by have s0 := SZ0.out; have s1 := SZ1.out; have s2 := SZ2.out; have s3 := SZ3.out; have s4 := SZ4.out; have s5 := SZ5.out; have s6 := SZ6.out; simp only; omega))
  have Q1_6 : Hid (w6.cell? ⟨w1.heap.size, 1, none⟩ = some (.slice ZA1 M.length Zc1)) := Lib.hid (Mv6.out.cell Q1_5.out (by have s0 := SZ0.out; have s1 := SZ1.out; have s2 := SZ2.out; have s3 := SZ3.out; have s4 := SZ4.out; have s5 := SZ5.out; have s6 := SZ6.out; simp only; omega))
  have S0_6 : Hid (w6.cell? ⟨w3.heap.size, 0, none⟩ = some (.slice YA0 D.length Yc0)) := Lib.hid (Mv6.out.cell S0_5.out (by have s0 := SZ0.out; have s1 := SZ1.out; have s2 := SZ2.out; have s3 := SZ3.out; have s4 := SZ4.out; have s5 := SZ5.out; have s6 := SZ6.out; simp only; omega))
  have S1_6 : Hid (w6.cell? ⟨w3.heap.size, 1, none⟩ = some (.slice YA1 M.length Yc1)) := Lib.hid (Mv6.out.cell S1_5.out (by have s0 := SZ0.out; have s1 := SZ1.out; have s2 := SZ2.out; have s3 := SZ3.out; have s4 := SZ4.out; have s5 := SZ5.out; have s6 := SZ6.out; simp only; omega))
  have HB6 : Hid (Below w.heap.size w w6) := Lib.hid (Mv6.out.below HB5.out (by have s0 := SZ0.out; have s1 := SZ1.out; have s2 := SZ2.out; have s3 := SZ3.out; have s4 := SZ4.out; have s5 := SZ5.out; have s6 := SZ6.out; omega) HB5.out.size)
  have OY0_6 : Hid (OI w6 w2.heap.size (.slice YA0 D.length Yc0) (marks 1 D.length)) := Lib.hid oa; have OY1_6 : Hid (OI w6 w2.heap.size (.slice YA1 M.length Yc1) (marks (1 + D.length) M.length)) := Lib.hid ob; clear oa ob
  have neg2 : ¬ (((1 + D.length + M.length : Nat) : Int) < 0) := by omega
  have qQ0 := Q0_6.out
  have qQ1 := Q1_6.out
  have qS0 := S0_6.out
  have qS1 := S1_6.out
  go_wp2_with fail
  clear qQ0 qQ1 qS0 qS1
  refine (heldSpace_any 1 OY0_6.out OY1_6.out (by have h1 := LD.out; have h2 := LM.out; omega)).mono ?_
  rintro e w7 ⟨rfl, g⟩
  have G7 := Lib.hid g; have SZ7 : Hid (w6.heap.size ≤ w7.heap.size) := Lib.hid g.size; clear g
  have OZ0_7 : Hid (OI w7 w.heap.size (.slice ZA0 D.length Zc0) D) := Lib.hid (OZ0_6.out.bel G7.out)
  have OZ1_7 : Hid (OI w7 w.heap.size (.slice ZA1 M.length Zc1) M) := Lib.hid (OZ1_6.out.bel G7.out)
  have Q0_7 : Hid (w7.cell? ⟨w1.heap.size, 0, none⟩ = some (.slice ZA0 D.length Zc0)) := Lib.hid (oldcell G7.out Q0_6.out)
  have Q1_7 : Hid (w7.cell? ⟨w1.heap.size, 1, none⟩ = some (.slice ZA1 M.length Zc1)) := Lib.hid (oldcell G7.out Q1_6.out)
  have S0_7 : Hid (w7.cell? ⟨w3.heap.size, 0, none⟩ = some (.slice YA0 D.length Yc0)) := Lib.hid (oldcell G7.out S0_6.out)
  have S1_7 : Hid (w7.cell? ⟨w3.heap.size, 1, none⟩ = some (.slice YA1 M.length Yc1)) := Lib.hid (oldcell G7.out S1_6.out)
  have OY0_7 : Hid (OI w7 w2.heap.size (.slice YA0 D.length Yc0) (marks 1 D.length)) := Lib.hid (OY0_6.out.bel G7.out)
  have OY1_7 : Hid (OI w7 w2.heap.size (.slice YA1 M.length Yc1) (marks (1 + D.length) M.length)) := Lib.hid (OY1_6.out.bel G7.out)
  have HB7 : Hid (Below w.heap.size w w7) := Lib.hid (HB6.out.trans (G7.out.mono HB6.out.size))
  have qQ0 := Q0_7.out
  have qQ1 := Q1_7.out
  have qS0 := S0_7.out
  have qS1 := S1_7.out
  go_wp2_with fail
  clear qQ0 qQ1 qS0 qS1
  refine (implDec_is HD.out HM.out HE.out _ Sd.out).mono ?_
  rintro e w8 ⟨CA0, CA1, Cc0, Cc1, rfl, oa, ob, hap, g⟩
  have G8 := Lib.hid g; have SZ8 : Hid (w7.heap.size ≤ w8.heap.size) := Lib.hid g.size; clear g
  have OZ0_8 : Hid (OI w8 w.heap.size (.slice ZA0 D.length Zc0) D) := Lib.hid (OZ0_7.out.bel G8.out)
  have OZ1_8 : Hid (OI w8 w.heap.size (.slice ZA1 M.length Zc1) M) := Lib.hid (OZ1_7.out.bel G8.out)
  have Q0_8 : Hid (w8.cell? ⟨w1.heap.size, 0, none⟩ = some (.slice ZA0 D.length Zc0)) := Lib.hid (oldcell G8.out Q0_7.out)
  have Q1_8 : Hid (w8.cell? ⟨w1.heap.size, 1, none⟩ = some (.slice ZA1 M.length Zc1)) := Lib.hid (oldcell G8.out Q1_7.out)
  have S0_8 : Hid (w8.cell? ⟨w3.heap.size, 0, none⟩ = some (.slice YA0 D.length Yc0)) := Lib.hid (oldcell G8.out S0_7.out)
  have S1_8 : Hid (w8.cell? ⟨w3.heap.size, 1, none⟩ = some (.slice YA1 M.length Yc1)) := Lib.hid (oldcell G8.out S1_7.out)
  have OY0_8 : Hid (OI w8 w2.heap.size (.slice YA0 D.length Yc0) (marks 1 D.length)) := Lib.hid (OY0_7.out.bel G8.out)
  have OY1_8 : Hid (OI w8 w2.heap.size (.slice YA1 M.length Yc1) (marks (1 + D.length) M.length)) := Lib.hid (OY1_7.out.bel G8.out)
  have HB8 : Hid (Below w.heap.size w w8) := Lib.hid (HB7.out.trans (G8.out.mono HB7.out.size))
  have OC0_8 : Hid (OI w8 w7.heap.size (.slice CA0 D.length Cc0) D) := Lib.hid oa; clear oa
  have OC1_8 : Hid (OI w8 w7.heap.size (.slice CA1 M.length Cc1) M) := Lib.hid ob; clear ob
  have XC := Lib.hid hap; clear hap
  have IC0 := Lib.hid OC0_8.out.wi; have IC1 := Lib.hid OC1_8.out.wi
  have G9 : Hid (Below w8.heap.size w8 (w8.alloc (.cells #[.slice CA0 D.length Cc0, .slice CA1 M.length Cc1] 24))) := Lib.hid ((Below.refl _ _).alloc (Nat.le_refl _) _)
  have SZ9 : Hid (w8.heap.size + 1 ≤ (w8.alloc (.cells #[.slice CA0 D.length Cc0, .slice CA1 M.length Cc1] 24)).heap.size) := Lib.hid (by simp)
  have OZ0_9 : Hid (OI (w8.alloc (.cells #[.slice CA0 D.length Cc0, .slice CA1 M.length Cc1] 24)) w.heap.size (.slice ZA0 D.length Zc0) D) := Lib.hid (OZ0_8.out.bel G9.out)
  have OZ1_9 : Hid (OI (w8.alloc (.cells #[.slice CA0 D.length Cc0, .slice CA1 M.length Cc1] 24)) w.heap.size (.slice ZA1 M.length Zc1) M) := Lib.hid (OZ1_8.out.bel G9.out)
  have Q0_9 : Hid ((w8.alloc (.cells #[.slice CA0 D.length Cc0, .slice CA1 M.length Cc1] 24)).cell? ⟨w1.heap.size, 0, none⟩ = some (.slice ZA0 D.length Zc0)) := Lib.hid (oldcell G9.out Q0_8.out)
  have Q1_9 : Hid ((w8.alloc (.cells #[.slice CA0 D.length Cc0, .slice CA1 M.length Cc1] 24)).cell? ⟨w1.heap.size, 1, none⟩ = some (.slice ZA1 M.length Zc1)) := Lib.hid (oldcell G9.out Q1_8.out)
  have S0_9 : Hid ((w8.alloc (.cells #[.slice CA0 D.length Cc0, .slice CA1 M.length Cc1] 24)).cell? ⟨w3.heap.size, 0, none⟩ = some (.slice YA0 D.length Yc0)) := Lib.hid (oldcell G9.out S0_8.out)
  have S1_9 : Hid ((w8.alloc (.cells #[.slice CA0 D.length Cc0, .slice CA1 M.length Cc1] 24)).cell? ⟨w3.heap.size, 1, none⟩ = some (.slice YA1 M.length Yc1)) := Lib.hid (oldcell G9.out S1_8.out)
  have OY0_9 : Hid (OI (w8.alloc (.cells #[.slice CA0 D.length Cc0, .slice CA1 M.length Cc1] 24)) w2.heap.size (.slice YA0 D.length Yc0) (marks 1 D.length)) := Lib.hid (OY0_8.out.bel G9.out)
  have OY1_9 : Hid (OI (w8.alloc (.cells #[.slice CA0 D.length Cc0, .slice CA1 M.length Cc1] 24)) w2.heap.size (.slice YA1 M.length Yc1) (marks (1 + D.length) M.length)) := Lib.hid (OY1_8.out.bel G9.out)
  have OC0_9 : Hid (OI (w8.alloc (.cells #[.slice CA0 D.length Cc0, .slice CA1 M.length Cc1] 24)) w7.heap.size (.slice CA0 D.length Cc0) D) := Lib.hid (OC0_8.out.bel G9.out)
  have OC1_9 : Hid (OI (w8.alloc (.cells #[.slice CA0 D.length Cc0, .slice CA1 M.length Cc1] 24)) w7.heap.size (.slice CA1 M.length Cc1) M) := Lib.hid (OC1_8.out.bel G9.out)
  have HB9 : Hid (Below w.heap.size w (w8.alloc (.cells #[.slice CA0 D.length Cc0, .slice CA1 M.length Cc1] 24))) := Lib.hid (HB8.out.trans (G9.out.mono HB8.out.size))
  have J0_9 : Hid ((w8.alloc (.cells #[.slice CA0 D.length Cc0, .slice CA1 M.length Cc1] 24)).cell? ⟨w8.heap.size, 0, none⟩ = some (.slice CA0 D.length Cc0)) := Lib.hid (by rw [cell_of_row _ _ _ _ _ _ (heap_alloc_new w8 _)]; rfl)
  have J1_9 : Hid ((w8.alloc (.cells #[.slice CA0 D.length Cc0, .slice CA1 M.length Cc1] 24)).cell? ⟨w8.heap.size, 1, none⟩ = some (.slice CA1 M.length Cc1)) := Lib.hid (by rw [cell_of_row _ _ _ _ _ _ (heap_alloc_new w8 _)]; rfl)
  have qQ0 := Q0_9.out
  have qQ1 := Q1_9.out
  have qS0 := S0_9.out
  have qS1 := S1_9.out
  have qJ0 := J0_9.out
  have qJ1 := J1_9.out
  go_wp2_with fail
  clear qQ0 qQ1 qS0 qS1 qJ0 qJ1
  generalize (w8.alloc (.cells #[.slice CA0 D.length Cc0, .slice CA1 M.length Cc1] 24)) = w9 at *
  refine (eqSpace_any (OC0_9.out.ri ID.out) (OC1_9.out.ri IM.out) (OZ0_9.out.ri ID.out) (OZ1_9.out.ri IM.out) (Nat.le_refl _)).mono ?_
  rintro e w10 ⟨rfl, g⟩
  have G10 := Lib.hid g; have SZ10 : Hid (w9.heap.size ≤ w10.heap.size) := Lib.hid g.size; clear g
  have OZ0_10 : Hid (OI w10 w.heap.size (.slice ZA0 D.length Zc0) D) := Lib.hid (OZ0_9.out.bel G10.out)
  have OZ1_10 : Hid (OI w10 w.heap.size (.slice ZA1 M.length Zc1) M) := Lib.hid (OZ1_9.out.bel G10.out)
  have Q0_10 : Hid (w10.cell? ⟨w1.heap.size, 0, none⟩ = some (.slice ZA0 D.length Zc0)) := Lib.hid (oldcell G10.out Q0_9.out)
  have Q1_10 : Hid (w10.cell? ⟨w1.heap.size, 1, none⟩ = some (.slice ZA1 M.length Zc1)) := Lib.hid (oldcell G10.out Q1_9.out)
  have S0_10 : Hid (w10.cell? ⟨w3.heap.size, 0, none⟩ = some (.slice YA0 D.length Yc0)) := Lib.hid (oldcell G10.out S0_9.out)
  have S1_10 : Hid (w10.cell? ⟨w3.heap.size, 1, none⟩ = some (.slice YA1 M.length Yc1)) := Lib.hid (oldcell G10.out S1_9.out)
  have OY0_10 : Hid (OI w10 w2.heap.size (.slice YA0 D.length Yc0) (marks 1 D.length)) := Lib.hid (OY0_9.out.bel G10.out)
  have OY1_10 : Hid (OI w10 w2.heap.size (.slice YA1 M.length Yc1) (marks (1 + D.length) M.length)) := Lib.hid (OY1_9.out.bel G10.out)
  have OC0_10 : Hid (OI w10 w7.heap.size (.slice CA0 D.length Cc0) D) := Lib.hid (OC0_9.out.bel G10.out)
  have OC1_10 : Hid (OI w10 w7.heap.size (.slice CA1 M.length Cc1) M) := Lib.hid (OC1_9.out.bel G10.out)
  have J0_10 : Hid (w10.cell? ⟨w8.heap.size, 0, none⟩ = some (.slice CA0 D.length Cc0)) := Lib.hid (oldcell G10.out J0_9.out)
  have J1_10 : Hid (w10.cell? ⟨w8.heap.size, 1, none⟩ = some (.slice CA1 M.length Cc1)) := Lib.hid (oldcell G10.out J1_9.out)
  have HB10 : Hid (Below w.heap.size w w10) := Lib.hid (HB9.out.trans (G10.out.mono HB9.out.size))
  have qQ0 := Q0_10.out
  have qQ1 := Q1_10.out
  have qS0 := S0_10.out
  have qS1 := S1_10.out
  have qJ0 := J0_10.out
  have qJ1 := J1_10.out
  go_wp2_with fail
  clear qQ0 qQ1 qS0 qS1 qJ0 qJ1
  refine (heldSpace_any 1 OY0_10.out OY1_10.out (by have h1 := LD.out; have h2 := LM.out; omega)).mono ?_
  rintro e w11 ⟨rfl, g⟩
  have G11 := Lib.hid g; have SZ11 : Hid (w10.heap.size ≤ w11.heap.size) := Lib.hid g.size; clear g
  have OZ0_11 : Hid (OI w11 w.heap.size (.slice ZA0 D.length Zc0) D) := Lib.hid (OZ0_10.out.bel G11.out)
  have OZ1_11 : Hid (OI w11 w.heap.size (.slice ZA1 M.length Zc1) M) := Lib.hid (OZ1_10.out.bel G11.out)
  have Q0_11 : Hid (w11.cell? ⟨w1.heap.size, 0, none⟩ = some (.slice ZA0 D.length Zc0)) := Lib.hid (oldcell G11.out Q0_10.out)
  have Q1_11 : Hid (w11.cell? ⟨w1.heap.size, 1, none⟩ = some (.slice ZA1 M.length Zc1)) := Lib.hid (oldcell G11.out Q1_10.out)
  have S0_11 : Hid (w11.cell? ⟨w3.heap.size, 0, none⟩ = some (.slice YA0 D.length Yc0)) := Lib.hid (oldcell G11.out S0_10.out)
  have S1_11 : Hid (w11.cell? ⟨w3.heap.size, 1, none⟩ = some (.slice YA1 M.length Yc1)) := Lib.hid (oldcell G11.out S1_10.out)
  have OY0_11 : Hid (OI w11 w2.heap.size (.slice YA0 D.length Yc0) (marks 1 D.length)) := Lib.hid (OY0_10.out.bel G11.out)
  have OY1_11 : Hid (OI w11 w2.heap.size (.slice YA1 M.length Yc1) (marks (1 + D.length) M.length)) := Lib.hid (OY1_10.out.bel G11.out)
  have OC0_11 : Hid (OI w11 w7.heap.size (.slice CA0 D.length Cc0) D) := Lib.hid (OC0_10.out.bel G11.out)
  have OC1_11 : Hid (OI w11 w7.heap.size (.slice CA1 M.length Cc1) M) := Lib.hid (OC1_10.out.bel G11.out)
  have J0_11 : Hid (w11.cell? ⟨w8.heap.size, 0, none⟩ = some (.slice CA0 D.length Cc0)) := Lib.hid (oldcell G11.out J0_10.out)
  have J1_11 : Hid (w11.cell? ⟨w8.heap.size, 1, none⟩ = some (.slice CA1 M.length Cc1)) := Lib.hid (oldcell G11.out J1_10.out)
  have HB11 : Hid (Below w.heap.size w w11) := Lib.hid (HB10.out.trans (G11.out.mono HB10.out.size))
  have qQ0 := Q0_11.out
  have qQ1 := Q1_11.out
  have qS0 := S0_11.out
  have qS1 := S1_11.out
  have qJ0 := J0_11.out
  have qJ1 := J1_11.out
  go_wp2_with fail
  clear qQ0 qQ1 qS0 qS1 qJ0 qJ1
  go_ret
  exact ⟨rfl, HB11.out⟩
set_option maxRecDepth 100000 in
theorem lifted (os : Os) (started : os.Started) (H : Type) (enc : TypeId × Value → H) :
    ReturnsInHanded {} Try.checked os 3 .any (Rows.fnExactDecodeSpaceSpec.pre6 enc Try.prog Try.f3 Rows.fnExactDecodeSpaceRow.domain false) (Rows.fnExactDecodeSpaceSpec.post enc Try.prog Try.f3 false true false false) := by
  refine returnsInHanded_of_change (C := Try.checked) own started (by kernel_rfl) Try.func3
    (ChangeSpec.witness6 (enc := enc) (C := Try.checked) false ⟨#[], #[.string ByteArray.empty], []⟩ 8 (by kernel_rfl) (by kernel_rfl) (by kernel_rfl) (by kernel_rfl)) ?_
  intro W base args ds gs before hval0 hW hcnd _
  have hval : ∀ (j : Nat) t v, Try.f3.params[j]? = some t → args[j]? = some v → Value.okWide Try.prog W .any base t v := hval0
  have hW' := hW
  obtain ⟨p, q, hA0, hV, rfl, hfz, hnd⟩ := hW
  have hA : DataW.TrodAll enc Try.prog W 0 (fun _ => true) true Try.f3.params.toList args.toList ds p := hA0
  rw [Try.params3] at hA hval
  obtain ⟨v0, vs0, d0, ds0, p0, q0, hargs, rfl, rfl, h0, r0⟩ := trodAll_cons hA
  obtain ⟨rfl, rfl, rfl⟩ := trodAll_nil r0
  obtain rfl : args = #[v0] := by cases args; simp_all
  obtain ⟨rfl, rfl⟩ := trodVars_none hV
  obtain ⟨a0, rfl, rfl, rfl, w0⟩ := open_string Try.underlying9 (hval 0 9 v0 rfl rfl) h0
  clear hA0 hval0
  refine (walk a0 w0 W).mono fun e W' ⟨he, bel⟩ => ?_
  subst he
  exact ⟨_, rfl, _, _, _, [], _, [], hW', (trodAll_cons_mk (shut_bool Try.underlying4 _) trodAll_mk0), (trodAll_cons_mk (shut_string Try.underlying9 w0) trodAll_mk0), rfl, bel.frame _, fun h => by cases h⟩

theorem over : Rows.fnExactDecodeSpaceRow.holds Try.pinned (OpenSpec.ofChange Rows.fnExactDecodeSpaceSpec) :=
  OpenClaim.holds_of_wide 3 Try.f3 rfl rfl rfl rfl rfl rfl rfl ⟨rfl, rfl, rfl, rfl, rfl⟩ rfl rfl rfl rfl rfl (by kernel_rfl) Try.func3 (by kernel_rfl)
    (of_decide_eq_true (by kernel_rfl)) (by unfold Func.isWrapper; rw [if_neg (of_decide_eq_false (by kernel_rfl))]; exact ⟨rfl, rfl⟩)
    (fun os started H enc _ => lifted os started H enc)

theorem proved : Rows.FnExactDecodeSpaceSaid := over
end Go.Proofs.Ytaokifppaagalaa.fnExactDecodeSpace
