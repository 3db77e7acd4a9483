/- The statement of the law FnExactFormatDisk: whatever the input, the program's function answers as the model's, and the input reads as it did. Its conditions are the given statement's own; nothing is added. -/
import Derived.Test.YtpjkeikaonkohaaJf
import Derived.Test.YtpjkeikaonkohaaFdS
import Derived.Test.YtpjkeikaonkohaaFdI
import Derived.Test.YtpjkeikaonkohaaDsk2
import Derived.Test.YtpjkeikaonkohaaAcc
import Derived.Test.YtpjkeikaonkohaaMrU
import Derived.ProofKit
import Derived.OpenShut
import Derived.ShutString
import Derived.ChangeOld
import Derived.Below
import Derived.Deep.DeepFit
import Derived.Deep.WholeRow
import Derived.Deep.RegionHeld3
namespace Go.Proofs.Ytpjkeikaonkohaa.fnExactFormatDisk
open Go.ChangeShapes Go.WideShapes Go.ChangeAt Go.RowKit
open Go.ChangeMaps (open_string shut_string)
set_option linter.unusedVariables false
theorem ans_sl {ss : List ByteArray} {ps : List Pt} {fz : Int} {off : Bool} {c : Int} {w : World} {e : Ending} {w' : World} (h : AnsDC ss ps fz off c w e w') : ∃ A1 A2 c1 c2, e = .returned (.tuple #[.agg #[.slice A1 ss.length c1, .slice A2 ps.length c2, .int .i64 fz, .bool off], .int .i64 c]) ∧
    OT w' w.heap.size (.slice A1 ss.length c1) ss ∧ OU w' w.heap.size (.slice A2 ps.length c2) ps ∧ Apart (.slice A1 ss.length c1) (.slice A2 ps.length c2) ∧ Below w.heap.size w w' := by
  obtain ⟨v1, v2, rfl, ⟨h1, h2, h3⟩, g⟩ := h
  have e1 : ∃ A cap, v1 = .slice A ss.length cap := by rcases OT.sl h1 with ⟨rfl, rfl⟩ | ⟨x, cap, rfl, _⟩ <;> exact ⟨_, _, rfl⟩
  have e2 : ∃ A cap, v2 = .slice A ps.length cap := by rcases OU.sl h2 with ⟨rfl, rfl⟩ | ⟨x, cap, rfl, _⟩ <;> exact ⟨_, _, rfl⟩
  obtain ⟨A1, c1, rfl⟩ := e1
  obtain ⟨A2, c2, rfl⟩ := e2
  exact ⟨A1, A2, c1, c2, rfl, h1, h2, h3, g⟩
set_option maxHeartbeats 8000000 in
set_option maxRecDepth 100000 in
theorem walk (w : World) (a0 a1 : Int) (h0w : (Lit.int .i64 a0).wf = true) (h1w : (Lit.int .i64 a1).wf = true) :
    Calls Try.prog 18 #[.int .i64 a0, .int .i64 a1] w (GivesB (.bool true) w) := by
  have h0 : InI a0 := i64_bounds h0w
  have h1 : InI a1 := i64_bounds h1w
  have S0 := Lib.hid (fun W => (specFormatDisk_any a0 a1 W h0 h1).mono fun e w' h => ans_sl h)
  have P0 := Lib.hid (fun W => (implFormatDisk_any a0 a1 W h0 h1).mono fun e w' h => ans_sl h)
  have ID : Hid (∀ x ∈ (fdS a0 a1), x.size ≤ maxLen) := Lib.hid (fdS_in a0 a1)
  have LD : Hid (((fdS a0 a1)).length ≤ 1048576) := Lib.hid (fdS_le a0 a1)
  generalize (fdS a0 a1) = D at *
  generalize (fdF a0 a1) = fz at *
  generalize (fdC a0 a1) = co at *
  have IM : Hid (∀ p ∈ ([] : List Pt), InI p.1 ∧ p.2.size ≤ maxLen) := Lib.hid (fun p hp => by cases hp)
  have LM : Hid (([] : List Pt).length ≤ 1048576) := Lib.hid (by simp)
  generalize ([] : List Pt) = M at *
  have eqc : (co == co) = true := by simp
  have HB0 : Hid (Below w.heap.size w w) := Lib.hid (Below.refl _ _)
  have SZ0 : Hid (w.heap.size ≤ w.heap.size) := Lib.hid (Nat.le_refl _)
  go_enter Try.func18, Try.ntmps18
  go_wp2_with fail
  refine (S0.out w).mono ?_
  rintro e w1 ⟨ZA0, ZA1, Zc0, Zc1, rfl, oa, ob, hap, g⟩
  have G1 := Lib.hid g; have SZ1 : Hid (w.heap.size ≤ w1.heap.size) := Lib.hid g.size; clear g
  have HB1 : Hid (Below w.heap.size w w1) := Lib.hid (HB0.out.trans (G1.out.mono HB0.out.size))
  have OZ0_1 : Hid (OT w1 w.heap.size (.slice ZA0 D.length Zc0) D) := Lib.hid oa; clear oa
  have OZ1_1 : Hid (OU w1 w.heap.size (.slice ZA1 M.length Zc1) M) := Lib.hid ob; clear ob
  have XZ := Lib.hid hap; clear hap
  have IZ0 := Lib.hid (own_wi OZ0_1.out); have IZ1 := Lib.hid (own_wi OZ1_1.out)
  have G2 : Hid (Below w1.heap.size w1 (w1.alloc (.cells #[.slice ZA0 D.length Zc0, .slice ZA1 M.length Zc1, .int .i64 fz, .bool false] 30))) := Lib.hid ((Below.refl _ _).alloc (Nat.le_refl _) _)
  have SZ2 : Hid (w1.heap.size + 1 ≤ (w1.alloc (.cells #[.slice ZA0 D.length Zc0, .slice ZA1 M.length Zc1, .int .i64 fz, .bool false] 30)).heap.size) := Lib.hid (by simp)
  have OZ0_2 : Hid (OT (w1.alloc (.cells #[.slice ZA0 D.length Zc0, .slice ZA1 M.length Zc1, .int .i64 fz, .bool false] 30)) w.heap.size (.slice ZA0 D.length Zc0) D) := Lib.hid (own_bel OZ0_1.out G2.out)
  have OZ1_2 : Hid (OU (w1.alloc (.cells #[.slice ZA0 D.length Zc0, .slice ZA1 M.length Zc1, .int .i64 fz, .bool false] 30)) w.heap.size (.slice ZA1 M.length Zc1) M) := Lib.hid (own_bel OZ1_1.out G2.out)
  have HB2 : Hid (Below w.heap.size w (w1.alloc (.cells #[.slice ZA0 D.length Zc0, .slice ZA1 M.length Zc1, .int .i64 fz, .bool false] 30))) := Lib.hid (HB1.out.trans (G2.out.mono HB1.out.size))
  have Q0_2 : Hid ((w1.alloc (.cells #[.slice ZA0 D.length Zc0, .slice ZA1 M.length Zc1, .int .i64 fz, .bool false] 30)).cell? ⟨w1.heap.size, 0, none⟩ = some (.slice ZA0 D.length Zc0)) := Lib.hid (by rw [cell_of_row _ _ _ _ _ _ (heap_alloc_new w1 _)]; rfl)
  have Q1_2 : Hid ((w1.alloc (.cells #[.slice ZA0 D.length Zc0, .slice ZA1 M.length Zc1, .int .i64 fz, .bool false] 30)).cell? ⟨w1.heap.size, 1, none⟩ = some (.slice ZA1 M.length Zc1)) := Lib.hid (by rw [cell_of_row _ _ _ _ _ _ (heap_alloc_new w1 _)]; rfl)
  have Q2_2 : Hid ((w1.alloc (.cells #[.slice ZA0 D.length Zc0, .slice ZA1 M.length Zc1, .int .i64 fz, .bool false] 30)).cell? ⟨w1.heap.size, 2, none⟩ = some (.int .i64 fz)) := Lib.hid (by rw [cell_of_row _ _ _ _ _ _ (heap_alloc_new w1 _)]; rfl)
  have Q3_2 : Hid ((w1.alloc (.cells #[.slice ZA0 D.length Zc0, .slice ZA1 M.length Zc1, .int .i64 fz, .bool false] 30)).cell? ⟨w1.heap.size, 3, none⟩ = some (.bool false)) := Lib.hid (by rw [cell_of_row _ _ _ _ _ _ (heap_alloc_new w1 _)]; rfl)
  have qQ0 := Q0_2.out
  have qQ1 := Q1_2.out
  have qQ2 := Q2_2.out
  have qQ3 := Q3_2.out
  go_wp2_with fail
  clear qQ0 qQ1 qQ2 qQ3
  generalize (w1.alloc (.cells #[.slice ZA0 D.length Zc0, .slice ZA1 M.length Zc1, .int .i64 fz, .bool false] 30)) = w2 at *
  refine (P0.out w2).mono ?_
  rintro e w3 ⟨YA0, YA1, Yc0, Yc1, rfl, oa, ob, hap, g⟩
  have G3 := Lib.hid g; have SZ3 : Hid (w2.heap.size ≤ w3.heap.size) := Lib.hid g.size; clear g
  have OZ0_3 : Hid (OT w3 w.heap.size (.slice ZA0 D.length Zc0) D) := Lib.hid (own_bel OZ0_2.out G3.out)
  have OZ1_3 : Hid (OU w3 w.heap.size (.slice ZA1 M.length Zc1) M) := Lib.hid (own_bel OZ1_2.out G3.out)
  have Q0_3 : Hid (w3.cell? ⟨w1.heap.size, 0, none⟩ = some (.slice ZA0 D.length Zc0)) := Lib.hid (oldcell G3.out Q0_2.out)
  have Q1_3 : Hid (w3.cell? ⟨w1.heap.size, 1, none⟩ = some (.slice ZA1 M.length Zc1)) := Lib.hid (oldcell G3.out Q1_2.out)
  have Q2_3 : Hid (w3.cell? ⟨w1.heap.size, 2, none⟩ = some (.int .i64 fz)) := Lib.hid (oldcell G3.out Q2_2.out)
  have Q3_3 : Hid (w3.cell? ⟨w1.heap.size, 3, none⟩ = some (.bool false)) := Lib.hid (oldcell G3.out Q3_2.out)
  have HB3 : Hid (Below w.heap.size w w3) := Lib.hid (HB2.out.trans (G3.out.mono HB2.out.size))
  have OY0_3 : Hid (OT w3 w2.heap.size (.slice YA0 D.length Yc0) D) := Lib.hid oa; clear oa
  have OY1_3 : Hid (OU w3 w2.heap.size (.slice YA1 M.length Yc1) M) := Lib.hid ob; clear ob
  have XY := Lib.hid hap; clear hap
  have IY0 := Lib.hid (own_wi OY0_3.out); have IY1 := Lib.hid (own_wi OY1_3.out)
  have G4 : Hid (Below w3.heap.size w3 (w3.alloc (.cells #[.slice YA0 D.length Yc0, .slice YA1 M.length Yc1, .int .i64 fz, .bool false] 30))) := Lib.hid ((Below.refl _ _).alloc (Nat.le_refl _) _)
  have SZ4 : Hid (w3.heap.size + 1 ≤ (w3.alloc (.cells #[.slice YA0 D.length Yc0, .slice YA1 M.length Yc1, .int .i64 fz, .bool false] 30)).heap.size) := Lib.hid (by simp)
  have OZ0_4 : Hid (OT (w3.alloc (.cells #[.slice YA0 D.length Yc0, .slice YA1 M.length Yc1, .int .i64 fz, .bool false] 30)) w.heap.size (.slice ZA0 D.length Zc0) D) := Lib.hid (own_bel OZ0_3.out G4.out)
  have OZ1_4 : Hid (OU (w3.alloc (.cells #[.slice YA0 D.length Yc0, .slice YA1 M.length Yc1, .int .i64 fz, .bool false] 30)) w.heap.size (.slice ZA1 M.length Zc1) M) := Lib.hid (own_bel OZ1_3.out G4.out)
  have Q0_4 : Hid ((w3.alloc (.cells #[.slice YA0 D.length Yc0, .slice YA1 M.length Yc1, .int .i64 fz, .bool false] 30)).cell? ⟨w1.heap.size, 0, none⟩ = some (.slice ZA0 D.length Zc0)) := Lib.hid (oldcell G4.out Q0_3.out)
  have Q1_4 : Hid ((w3.alloc (.cells #[.slice YA0 D.length Yc0, .slice YA1 M.length Yc1, .int .i64 fz, .bool false] 30)).cell? ⟨w1.heap.size, 1, none⟩ = some (.slice ZA1 M.length Zc1)) := Lib.hid (oldcell G4.out Q1_3.out)
  have Q2_4 : Hid ((w3.alloc (.cells #[.slice YA0 D.length Yc0, .slice YA1 M.length Yc1, .int .i64 fz, .bool false] 30)).cell? ⟨w1.heap.size, 2, none⟩ = some (.int .i64 fz)) := Lib.hid (oldcell G4.out Q2_3.out)
  have Q3_4 : Hid ((w3.alloc (.cells #[.slice YA0 D.length Yc0, .slice YA1 M.length Yc1, .int .i64 fz, .bool false] 30)).cell? ⟨w1.heap.size, 3, none⟩ = some (.bool false)) := Lib.hid (oldcell G4.out Q3_3.out)
  have OY0_4 : Hid (OT (w3.alloc (.cells #[.slice YA0 D.length Yc0, .slice YA1 M.length Yc1, .int .i64 fz, .bool false] 30)) w2.heap.size (.slice YA0 D.length Yc0) D) := Lib.hid (own_bel OY0_3.out G4.out)
  have OY1_4 : Hid (OU (w3.alloc (.cells #[.slice YA0 D.length Yc0, .slice YA1 M.length Yc1, .int .i64 fz, .bool false] 30)) w2.heap.size (.slice YA1 M.length Yc1) M) := Lib.hid (own_bel OY1_3.out G4.out)
  have HB4 : Hid (Below w.heap.size w (w3.alloc (.cells #[.slice YA0 D.length Yc0, .slice YA1 M.length Yc1, .int .i64 fz, .bool false] 30))) := Lib.hid (HB3.out.trans (G4.out.mono HB3.out.size))
  have S0_4 : Hid ((w3.alloc (.cells #[.slice YA0 D.length Yc0, .slice YA1 M.length Yc1, .int .i64 fz, .bool false] 30)).cell? ⟨w3.heap.size, 0, none⟩ = some (.slice YA0 D.length Yc0)) := Lib.hid (by rw [cell_of_row _ _ _ _ _ _ (heap_alloc_new w3 _)]; rfl)
  have S1_4 : Hid ((w3.alloc (.cells #[.slice YA0 D.length Yc0, .slice YA1 M.length Yc1, .int .i64 fz, .bool false] 30)).cell? ⟨w3.heap.size, 1, none⟩ = some (.slice YA1 M.length Yc1)) := Lib.hid (by rw [cell_of_row _ _ _ _ _ _ (heap_alloc_new w3 _)]; rfl)
  have S2_4 : Hid ((w3.alloc (.cells #[.slice YA0 D.length Yc0, .slice YA1 M.length Yc1, .int .i64 fz, .bool false] 30)).cell? ⟨w3.heap.size, 2, none⟩ = some (.int .i64 fz)) := Lib.hid (by rw [cell_of_row _ _ _ _ _ _ (heap_alloc_new w3 _)]; rfl)
  have S3_4 : Hid ((w3.alloc (.cells #[.slice YA0 D.length Yc0, .slice YA1 M.length Yc1, .int .i64 fz, .bool false] 30)).cell? ⟨w3.heap.size, 3, none⟩ = some (.bool false)) := Lib.hid (by rw [cell_of_row _ _ _ _ _ _ (heap_alloc_new w3 _)]; rfl)
  have qQ0 := Q0_4.out
  have qQ1 := Q1_4.out
  have qQ2 := Q2_4.out
  have qQ3 := Q3_4.out
  have qS0 := S0_4.out
  have qS1 := S1_4.out
  have qS2 := S2_4.out
  have qS3 := S3_4.out
  go_wp2_with fail
  clear qQ0 qQ1 qQ2 qQ3 qS0 qS1 qS2 qS3
  generalize (w3.alloc (.cells #[.slice YA0 D.length Yc0, .slice YA1 M.length Yc1, .int .i64 fz, .bool false] 30)) = w4 at *
  refine (eqDisk_any (OY0_4.out.rit ID.out) (OY1_4.out.riu IM.out) (OZ0_4.out.rit ID.out) (OZ1_4.out.riu IM.out) (Nat.le_refl _)).mono ?_
  rintro e w5 ⟨rfl, g⟩
  have G5 := Lib.hid g; have SZ5 : Hid (w4.heap.size ≤ w5.heap.size) := Lib.hid g.size; clear g
  have OZ0_5 : Hid (OT w5 w.heap.size (.slice ZA0 D.length Zc0) D) := Lib.hid (own_bel OZ0_4.out G5.out)
  have OZ1_5 : Hid (OU w5 w.heap.size (.slice ZA1 M.length Zc1) M) := Lib.hid (own_bel OZ1_4.out G5.out)
  have Q0_5 : Hid (w5.cell? ⟨w1.heap.size, 0, none⟩ = some (.slice ZA0 D.length Zc0)) := Lib.hid (oldcell G5.out Q0_4.out)
  have Q1_5 : Hid (w5.cell? ⟨w1.heap.size, 1, none⟩ = some (.slice ZA1 M.length Zc1)) := Lib.hid (oldcell G5.out Q1_4.out)
  have Q2_5 : Hid (w5.cell? ⟨w1.heap.size, 2, none⟩ = some (.int .i64 fz)) := Lib.hid (oldcell G5.out Q2_4.out)
  have Q3_5 : Hid (w5.cell? ⟨w1.heap.size, 3, none⟩ = some (.bool false)) := Lib.hid (oldcell G5.out Q3_4.out)
  have OY0_5 : Hid (OT w5 w2.heap.size (.slice YA0 D.length Yc0) D) := Lib.hid (own_bel OY0_4.out G5.out)
  have OY1_5 : Hid (OU w5 w2.heap.size (.slice YA1 M.length Yc1) M) := Lib.hid (own_bel OY1_4.out G5.out)
  have S0_5 : Hid (w5.cell? ⟨w3.heap.size, 0, none⟩ = some (.slice YA0 D.length Yc0)) := Lib.hid (oldcell G5.out S0_4.out)
  have S1_5 : Hid (w5.cell? ⟨w3.heap.size, 1, none⟩ = some (.slice YA1 M.length Yc1)) := Lib.hid (oldcell G5.out S1_4.out)
  have S2_5 : Hid (w5.cell? ⟨w3.heap.size, 2, none⟩ = some (.int .i64 fz)) := Lib.hid (oldcell G5.out S2_4.out)
  have S3_5 : Hid (w5.cell? ⟨w3.heap.size, 3, none⟩ = some (.bool false)) := Lib.hid (oldcell G5.out S3_4.out)
  have HB5 : Hid (Below w.heap.size w w5) := Lib.hid (HB4.out.trans (G5.out.mono HB4.out.size))
  have qQ0 := Q0_5.out
  have qQ1 := Q1_5.out
  have qQ2 := Q2_5.out
  have qQ3 := Q3_5.out
  have qS0 := S0_5.out
  have qS1 := S1_5.out
  have qS2 := S2_5.out
  have qS3 := S3_5.out
  go_wp2_with fail
  clear qQ0 qQ1 qQ2 qQ3 qS0 qS1 qS2 qS3
  refine (markDisk_any (lo := w2.heap.size) (hi := w3.heap.size) OY0_5.out OY1_5.out IY0.out IY1.out XY.out (by have s0 := SZ0.out; have s1 := SZ1.out; have s2 := SZ2.out; have s3 := SZ3.out; have s4 := SZ4.out; have s5 := SZ5.out; omega) 1 (by omega) (by have h1 := LD.out; have h2 := LM.out; omega)).mono ?_
  rintro e w6 ⟨rfl, oa, ob, mm⟩
  have Mv6 : Hid (Mv w2.heap.size w3.heap.size w5 w6) := Lib.hid (mm)
  have SZ6 : Hid (w5.heap.size ≤ w6.heap.size) := Lib.hid Mv6.out.2.2.2.1
  have OZ0_6 : Hid (OT w6 w.heap.size (.slice ZA0 D.length Zc0) D) := Lib.hid (own_mv OZ0_5.out Mv6.out (fun g hg => by have := IZ0.out g hg; have s0 := SZ0.out; have s1 := SZ1.out; have s2 := SZ2.out; have s3 := SZ3.out; have s4 := SZ4.out; have s5 := SZ5.out; have s6 := SZ6.out; omega))
  have OZ1_6 : Hid (OU w6 w.heap.size (.slice ZA1 M.length Zc1) M) := Lib.hid (own_mv OZ1_5.out Mv6.out (fun g hg => by have := IZ1.out g hg; have s0 := SZ0.out; have s1 := SZ1.out; have s2 := SZ2.out; have s3 := SZ3.out; have s4 := SZ4.out; have s5 := SZ5.out; have s6 := SZ6.out; omega))
  have Q0_6 : Hid (w6.cell? ⟨w1.heap.size, 0, none⟩ = some (.slice ZA0 D.length Zc0)) := Lib.hid (Mv6.out.cell Q0_5.out (by have s0 := SZ0.out; have s1 := SZ1.out; have s2 := SZ2.out; have s3 := SZ3.out; have s4 := SZ4.out; have s5 := SZ5.out; have s6 := SZ6.out; simp only; omega))
  have Q1_6 : Hid (w6.cell? ⟨w1.heap.size, 1, none⟩ = some (.slice ZA1 M.length Zc1)) := Lib.hid (Mv6.out.cell Q1_5.out (by have s0 := SZ0.out; have s1 := SZ1.out; have s2 := SZ2.out; have s3 := SZ3.out; have s4 := SZ4.out; have s5 := SZ5.out; have s6 := SZ6.out; simp only; omega))
  have Q2_6 : Hid (w6.cell? ⟨w1.heap.size, 2, none⟩ = some (.int .i64 fz)) := Lib.hid (Mv6.out.cell Q2_5.out (by have s0 := SZ0.out; have s1 := SZ1.out; have s2 := SZ2.out; have s3 := SZ3.out; have s4 := SZ4.out; have s5 := SZ5.out; have s6 := SZ6.out; simp only; omega))
  have Q3_6 : Hid (w6.cell? ⟨w1.heap.size, 3, none⟩ = some (.bool false)) := Lib.hid (Mv6.out.cell Q3_5.out (by have s0 := SZ0.out; have s1 := SZ1.out; have s2 := SZ2.out; have s3 := SZ3.out; have s4 := SZ4.out; have s5 := SZ5.out; have s6 := SZ6.out; simp only; omega))
  have S0_6 : Hid (w6.cell? ⟨w3.heap.size, 0, none⟩ = some (.slice YA0 D.length Yc0)) := Lib.hid (Mv6.out.cell S0_5.out (by have s0 := SZ0.out; have s1 := SZ1.out; have s2 := SZ2.out; have s3 := SZ3.out; have s4 := SZ4.out; have s5 := SZ5.out; have s6 := SZ6.out; simp only; omega))
  have S1_6 : Hid (w6.cell? ⟨w3.heap.size, 1, none⟩ = some (.slice YA1 M.length Yc1)) := Lib.hid (Mv6.out.cell S1_5.out (by have s0 := SZ0.out; have s1 := SZ1.out; have s2 := SZ2.out; have s3 := SZ3.out; have s4 := SZ4.out; have s5 := SZ5.out; have s6 := SZ6.out; simp only; omega))
  have S2_6 : Hid (w6.cell? ⟨w3.heap.size, 2, none⟩ = some (.int .i64 fz)) := Lib.hid (Mv6.out.cell S2_5.out (by have s0 := SZ0.out; have s1 := SZ1.out; have s2 := SZ2.out; have s3 := SZ3.out; have s4 := SZ4.out; have s5 := SZ5.out; have s6 := SZ6.out; simp only; omega))
  have S3_6 : Hid (w6.cell? ⟨w3.heap.size, 3, none⟩ = some (.bool false)) := Lib.hid (Mv6.out.cell S3_5.out (by have s0 := SZ0.out; have s1 := SZ1.out; have s2 := SZ2.out; have s3 := SZ3.out; have s4 := SZ4.out; have s5 := SZ5.out; have s6 := SZ6.out; simp only; omega))
  have HB6 : Hid (Below w.heap.size w w6) := Lib.hid (Mv6.out.below HB5.out (by have s0 := SZ0.out; have s1 := SZ1.out; have s2 := SZ2.out; have s3 := SZ3.out; have s4 := SZ4.out; have s5 := SZ5.out; have s6 := SZ6.out; omega) HB5.out.size)
  have OY0_6 : Hid (OT w6 w2.heap.size (.slice YA0 D.length Yc0) (marksT 1 D.length)) := Lib.hid oa; have OY1_6 : Hid (OU w6 w2.heap.size (.slice YA1 M.length Yc1) (marksU (1 + D.length) M.length)) := Lib.hid ob; clear oa ob
  have neg2 : ¬ (((1 + D.length + 2 * M.length : Nat) : Int) < 0) := by omega
  have qQ0 := Q0_6.out
  have qQ1 := Q1_6.out
  have qQ2 := Q2_6.out
  have qQ3 := Q3_6.out
  have qS0 := S0_6.out
  have qS1 := S1_6.out
  have qS2 := S2_6.out
  have qS3 := S3_6.out
  go_wp2_with fail
  clear qQ0 qQ1 qQ2 qQ3 qS0 qS1 qS2 qS3
  refine (heldDisk_any 1 OY0_6.out OY1_6.out (by omega) (by have h1 := LD.out; have h2 := LM.out; omega)).mono ?_
  rintro e w7 ⟨rfl, g⟩
  have G7 := Lib.hid g; have SZ7 : Hid (w6.heap.size ≤ w7.heap.size) := Lib.hid g.size; clear g
  have OZ0_7 : Hid (OT w7 w.heap.size (.slice ZA0 D.length Zc0) D) := Lib.hid (own_bel OZ0_6.out G7.out)
  have OZ1_7 : Hid (OU w7 w.heap.size (.slice ZA1 M.length Zc1) M) := Lib.hid (own_bel OZ1_6.out G7.out)
  have Q0_7 : Hid (w7.cell? ⟨w1.heap.size, 0, none⟩ = some (.slice ZA0 D.length Zc0)) := Lib.hid (oldcell G7.out Q0_6.out)
  have Q1_7 : Hid (w7.cell? ⟨w1.heap.size, 1, none⟩ = some (.slice ZA1 M.length Zc1)) := Lib.hid (oldcell G7.out Q1_6.out)
  have Q2_7 : Hid (w7.cell? ⟨w1.heap.size, 2, none⟩ = some (.int .i64 fz)) := Lib.hid (oldcell G7.out Q2_6.out)
  have Q3_7 : Hid (w7.cell? ⟨w1.heap.size, 3, none⟩ = some (.bool false)) := Lib.hid (oldcell G7.out Q3_6.out)
  have S0_7 : Hid (w7.cell? ⟨w3.heap.size, 0, none⟩ = some (.slice YA0 D.length Yc0)) := Lib.hid (oldcell G7.out S0_6.out)
  have S1_7 : Hid (w7.cell? ⟨w3.heap.size, 1, none⟩ = some (.slice YA1 M.length Yc1)) := Lib.hid (oldcell G7.out S1_6.out)
  have S2_7 : Hid (w7.cell? ⟨w3.heap.size, 2, none⟩ = some (.int .i64 fz)) := Lib.hid (oldcell G7.out S2_6.out)
  have S3_7 : Hid (w7.cell? ⟨w3.heap.size, 3, none⟩ = some (.bool false)) := Lib.hid (oldcell G7.out S3_6.out)
  have OY0_7 : Hid (OT w7 w2.heap.size (.slice YA0 D.length Yc0) (marksT 1 D.length)) := Lib.hid (own_bel OY0_6.out G7.out)
  have OY1_7 : Hid (OU w7 w2.heap.size (.slice YA1 M.length Yc1) (marksU (1 + D.length) M.length)) := Lib.hid (own_bel OY1_6.out G7.out)
  have HB7 : Hid (Below w.heap.size w w7) := Lib.hid (HB6.out.trans (G7.out.mono HB6.out.size))
  have qQ0 := Q0_7.out
  have qQ1 := Q1_7.out
  have qQ2 := Q2_7.out
  have qQ3 := Q3_7.out
  have qS0 := S0_7.out
  have qS1 := S1_7.out
  have qS2 := S2_7.out
  have qS3 := S3_7.out
  go_wp2_with fail
  clear qQ0 qQ1 qQ2 qQ3 qS0 qS1 qS2 qS3
  refine (P0.out w7).mono ?_
  rintro e w8 ⟨CA0, CA1, Cc0, Cc1, rfl, oa, ob, hap, g⟩
  have G8 := Lib.hid g; have SZ8 : Hid (w7.heap.size ≤ w8.heap.size) := Lib.hid g.size; clear g
  have OZ0_8 : Hid (OT w8 w.heap.size (.slice ZA0 D.length Zc0) D) := Lib.hid (own_bel OZ0_7.out G8.out)
  have OZ1_8 : Hid (OU w8 w.heap.size (.slice ZA1 M.length Zc1) M) := Lib.hid (own_bel OZ1_7.out G8.out)
  have Q0_8 : Hid (w8.cell? ⟨w1.heap.size, 0, none⟩ = some (.slice ZA0 D.length Zc0)) := Lib.hid (oldcell G8.out Q0_7.out)
  have Q1_8 : Hid (w8.cell? ⟨w1.heap.size, 1, none⟩ = some (.slice ZA1 M.length Zc1)) := Lib.hid (oldcell G8.out Q1_7.out)
  have Q2_8 : Hid (w8.cell? ⟨w1.heap.size, 2, none⟩ = some (.int .i64 fz)) := Lib.hid (oldcell G8.out Q2_7.out)
  have Q3_8 : Hid (w8.cell? ⟨w1.heap.size, 3, none⟩ = some (.bool false)) := Lib.hid (oldcell G8.out Q3_7.out)
  have S0_8 : Hid (w8.cell? ⟨w3.heap.size, 0, none⟩ = some (.slice YA0 D.length Yc0)) := Lib.hid (oldcell G8.out S0_7.out)
  have S1_8 : Hid (w8.cell? ⟨w3.heap.size, 1, none⟩ = some (.slice YA1 M.length Yc1)) := Lib.hid (oldcell G8.out S1_7.out)
  have S2_8 : Hid (w8.cell? ⟨w3.heap.size, 2, none⟩ = some (.int .i64 fz)) := Lib.hid (oldcell G8.out S2_7.out)
  have S3_8 : Hid (w8.cell? ⟨w3.heap.size, 3, none⟩ = some (.bool false)) := Lib.hid (oldcell G8.out S3_7.out)
  have OY0_8 : Hid (OT w8 w2.heap.size (.slice YA0 D.length Yc0) (marksT 1 D.length)) := Lib.hid (own_bel OY0_7.out G8.out)
  have OY1_8 : Hid (OU w8 w2.heap.size (.slice YA1 M.length Yc1) (marksU (1 + D.length) M.length)) := Lib.hid (own_bel OY1_7.out G8.out)
  have HB8 : Hid (Below w.heap.size w w8) := Lib.hid (HB7.out.trans (G8.out.mono HB7.out.size))
  have OC0_8 : Hid (OT w8 w7.heap.size (.slice CA0 D.length Cc0) D) := Lib.hid oa; clear oa
  have OC1_8 : Hid (OU w8 w7.heap.size (.slice CA1 M.length Cc1) M) := Lib.hid ob; clear ob
  have XC := Lib.hid hap; clear hap
  have IC0 := Lib.hid (own_wi OC0_8.out); have IC1 := Lib.hid (own_wi OC1_8.out)
  have G9 : Hid (Below w8.heap.size w8 (w8.alloc (.cells #[.slice CA0 D.length Cc0, .slice CA1 M.length Cc1, .int .i64 fz, .bool false] 30))) := Lib.hid ((Below.refl _ _).alloc (Nat.le_refl _) _)
  have SZ9 : Hid (w8.heap.size + 1 ≤ (w8.alloc (.cells #[.slice CA0 D.length Cc0, .slice CA1 M.length Cc1, .int .i64 fz, .bool false] 30)).heap.size) := Lib.hid (by simp)
  have OZ0_9 : Hid (OT (w8.alloc (.cells #[.slice CA0 D.length Cc0, .slice CA1 M.length Cc1, .int .i64 fz, .bool false] 30)) w.heap.size (.slice ZA0 D.length Zc0) D) := Lib.hid (own_bel OZ0_8.out G9.out)
  have OZ1_9 : Hid (OU (w8.alloc (.cells #[.slice CA0 D.length Cc0, .slice CA1 M.length Cc1, .int .i64 fz, .bool false] 30)) w.heap.size (.slice ZA1 M.length Zc1) M) := Lib.hid (own_bel OZ1_8.out G9.out)
  have Q0_9 : Hid ((w8.alloc (.cells #[.slice CA0 D.length Cc0, .slice CA1 M.length Cc1, .int .i64 fz, .bool false] 30)).cell? ⟨w1.heap.size, 0, none⟩ = some (.slice ZA0 D.length Zc0)) := Lib.hid (oldcell G9.out Q0_8.out)
  have Q1_9 : Hid ((w8.alloc (.cells #[.slice CA0 D.length Cc0, .slice CA1 M.length Cc1, .int .i64 fz, .bool false] 30)).cell? ⟨w1.heap.size, 1, none⟩ = some (.slice ZA1 M.length Zc1)) := Lib.hid (oldcell G9.out Q1_8.out)
  have Q2_9 : Hid ((w8.alloc (.cells #[.slice CA0 D.length Cc0, .slice CA1 M.length Cc1, .int .i64 fz, .bool false] 30)).cell? ⟨w1.heap.size, 2, none⟩ = some (.int .i64 fz)) := Lib.hid (oldcell G9.out Q2_8.out)
  have Q3_9 : Hid ((w8.alloc (.cells #[.slice CA0 D.length Cc0, .slice CA1 M.length Cc1, .int .i64 fz, .bool false] 30)).cell? ⟨w1.heap.size, 3, none⟩ = some (.bool false)) := Lib.hid (oldcell G9.out Q3_8.out)
  have S0_9 : Hid ((w8.alloc (.cells #[.slice CA0 D.length Cc0, .slice CA1 M.length Cc1, .int .i64 fz, .bool false] 30)).cell? ⟨w3.heap.size, 0, none⟩ = some (.slice YA0 D.length Yc0)) := Lib.hid (oldcell G9.out S0_8.out)
  have S1_9 : Hid ((w8.alloc (.cells #[.slice CA0 D.length Cc0, .slice CA1 M.length Cc1, .int .i64 fz, .bool false] 30)).cell? ⟨w3.heap.size, 1, none⟩ = some (.slice YA1 M.length Yc1)) := Lib.hid (oldcell G9.out S1_8.out)
  have S2_9 : Hid ((w8.alloc (.cells #[.slice CA0 D.length Cc0, .slice CA1 M.length Cc1, .int .i64 fz, .bool false] 30)).cell? ⟨w3.heap.size, 2, none⟩ = some (.int .i64 fz)) := Lib.hid (oldcell G9.out S2_8.out)
  have S3_9 : Hid ((w8.alloc (.cells #[.slice CA0 D.length Cc0, .slice CA1 M.length Cc1, .int .i64 fz, .bool false] 30)).cell? ⟨w3.heap.size, 3, none⟩ = some (.bool false)) := Lib.hid (oldcell G9.out S3_8.out)
  have OY0_9 : Hid (OT (w8.alloc (.cells #[.slice CA0 D.length Cc0, .slice CA1 M.length Cc1, .int .i64 fz, .bool false] 30)) w2.heap.size (.slice YA0 D.length Yc0) (marksT 1 D.length)) := Lib.hid (own_bel OY0_8.out G9.out)
  have OY1_9 : Hid (OU (w8.alloc (.cells #[.slice CA0 D.length Cc0, .slice CA1 M.length Cc1, .int .i64 fz, .bool false] 30)) w2.heap.size (.slice YA1 M.length Yc1) (marksU (1 + D.length) M.length)) := Lib.hid (own_bel OY1_8.out G9.out)
  have OC0_9 : Hid (OT (w8.alloc (.cells #[.slice CA0 D.length Cc0, .slice CA1 M.length Cc1, .int .i64 fz, .bool false] 30)) w7.heap.size (.slice CA0 D.length Cc0) D) := Lib.hid (own_bel OC0_8.out G9.out)
  have OC1_9 : Hid (OU (w8.alloc (.cells #[.slice CA0 D.length Cc0, .slice CA1 M.length Cc1, .int .i64 fz, .bool false] 30)) w7.heap.size (.slice CA1 M.length Cc1) M) := Lib.hid (own_bel OC1_8.out G9.out)
  have HB9 : Hid (Below w.heap.size w (w8.alloc (.cells #[.slice CA0 D.length Cc0, .slice CA1 M.length Cc1, .int .i64 fz, .bool false] 30))) := Lib.hid (HB8.out.trans (G9.out.mono HB8.out.size))
  have J0_9 : Hid ((w8.alloc (.cells #[.slice CA0 D.length Cc0, .slice CA1 M.length Cc1, .int .i64 fz, .bool false] 30)).cell? ⟨w8.heap.size, 0, none⟩ = some (.slice CA0 D.length Cc0)) := Lib.hid (by rw [cell_of_row _ _ _ _ _ _ (heap_alloc_new w8 _)]; rfl)
  have J1_9 : Hid ((w8.alloc (.cells #[.slice CA0 D.length Cc0, .slice CA1 M.length Cc1, .int .i64 fz, .bool false] 30)).cell? ⟨w8.heap.size, 1, none⟩ = some (.slice CA1 M.length Cc1)) := Lib.hid (by rw [cell_of_row _ _ _ _ _ _ (heap_alloc_new w8 _)]; rfl)
  have J2_9 : Hid ((w8.alloc (.cells #[.slice CA0 D.length Cc0, .slice CA1 M.length Cc1, .int .i64 fz, .bool false] 30)).cell? ⟨w8.heap.size, 2, none⟩ = some (.int .i64 fz)) := Lib.hid (by rw [cell_of_row _ _ _ _ _ _ (heap_alloc_new w8 _)]; rfl)
  have J3_9 : Hid ((w8.alloc (.cells #[.slice CA0 D.length Cc0, .slice CA1 M.length Cc1, .int .i64 fz, .bool false] 30)).cell? ⟨w8.heap.size, 3, none⟩ = some (.bool false)) := Lib.hid (by rw [cell_of_row _ _ _ _ _ _ (heap_alloc_new w8 _)]; rfl)
  have qQ0 := Q0_9.out
  have qQ1 := Q1_9.out
  have qQ2 := Q2_9.out
  have qQ3 := Q3_9.out
  have qS0 := S0_9.out
  have qS1 := S1_9.out
  have qS2 := S2_9.out
  have qS3 := S3_9.out
  have qJ0 := J0_9.out
  have qJ1 := J1_9.out
  have qJ2 := J2_9.out
  have qJ3 := J3_9.out
  go_wp2_with fail
  clear qQ0 qQ1 qQ2 qQ3 qS0 qS1 qS2 qS3 qJ0 qJ1 qJ2 qJ3
  generalize (w8.alloc (.cells #[.slice CA0 D.length Cc0, .slice CA1 M.length Cc1, .int .i64 fz, .bool false] 30)) = w9 at *
  refine (eqDisk_any (OC0_9.out.rit ID.out) (OC1_9.out.riu IM.out) (OZ0_9.out.rit ID.out) (OZ1_9.out.riu IM.out) (Nat.le_refl _)).mono ?_
  rintro e w10 ⟨rfl, g⟩
  have G10 := Lib.hid g; have SZ10 : Hid (w9.heap.size ≤ w10.heap.size) := Lib.hid g.size; clear g
  have OZ0_10 : Hid (OT w10 w.heap.size (.slice ZA0 D.length Zc0) D) := Lib.hid (own_bel OZ0_9.out G10.out)
  have OZ1_10 : Hid (OU w10 w.heap.size (.slice ZA1 M.length Zc1) M) := Lib.hid (own_bel OZ1_9.out G10.out)
  have Q0_10 : Hid (w10.cell? ⟨w1.heap.size, 0, none⟩ = some (.slice ZA0 D.length Zc0)) := Lib.hid (oldcell G10.out Q0_9.out)
  have Q1_10 : Hid (w10.cell? ⟨w1.heap.size, 1, none⟩ = some (.slice ZA1 M.length Zc1)) := Lib.hid (oldcell G10.out Q1_9.out)
  have Q2_10 : Hid (w10.cell? ⟨w1.heap.size, 2, none⟩ = some (.int .i64 fz)) := Lib.hid (oldcell G10.out Q2_9.out)
  have Q3_10 : Hid (w10.cell? ⟨w1.heap.size, 3, none⟩ = some (.bool false)) := Lib.hid (oldcell G10.out Q3_9.out)
  have S0_10 : Hid (w10.cell? ⟨w3.heap.size, 0, none⟩ = some (.slice YA0 D.length Yc0)) := Lib.hid (oldcell G10.out S0_9.out)
  have S1_10 : Hid (w10.cell? ⟨w3.heap.size, 1, none⟩ = some (.slice YA1 M.length Yc1)) := Lib.hid (oldcell G10.out S1_9.out)
  have S2_10 : Hid (w10.cell? ⟨w3.heap.size, 2, none⟩ = some (.int .i64 fz)) := Lib.hid (oldcell G10.out S2_9.out)
  have S3_10 : Hid (w10.cell? ⟨w3.heap.size, 3, none⟩ = some (.bool false)) := Lib.hid (oldcell G10.out S3_9.out)
  have OY0_10 : Hid (OT w10 w2.heap.size (.slice YA0 D.length Yc0) (marksT 1 D.length)) := Lib.hid (own_bel OY0_9.out G10.out)
  have OY1_10 : Hid (OU w10 w2.heap.size (.slice YA1 M.length Yc1) (marksU (1 + D.length) M.length)) := Lib.hid (own_bel OY1_9.out G10.out)
  have OC0_10 : Hid (OT w10 w7.heap.size (.slice CA0 D.length Cc0) D) := Lib.hid (own_bel OC0_9.out G10.out)
  have OC1_10 : Hid (OU w10 w7.heap.size (.slice CA1 M.length Cc1) M) := Lib.hid (own_bel OC1_9.out G10.out)
  have J0_10 : Hid (w10.cell? ⟨w8.heap.size, 0, none⟩ = some (.slice CA0 D.length Cc0)) := Lib.hid (oldcell G10.out J0_9.out)
  have J1_10 : Hid (w10.cell? ⟨w8.heap.size, 1, none⟩ = some (.slice CA1 M.length Cc1)) := Lib.hid (oldcell G10.out J1_9.out)
  have J2_10 : Hid (w10.cell? ⟨w8.heap.size, 2, none⟩ = some (.int .i64 fz)) := Lib.hid (oldcell G10.out J2_9.out)
  have J3_10 : Hid (w10.cell? ⟨w8.heap.size, 3, none⟩ = some (.bool false)) := Lib.hid (oldcell G10.out J3_9.out)
  have HB10 : Hid (Below w.heap.size w w10) := Lib.hid (HB9.out.trans (G10.out.mono HB9.out.size))
  have qQ0 := Q0_10.out
  have qQ1 := Q1_10.out
  have qQ2 := Q2_10.out
  have qQ3 := Q3_10.out
  have qS0 := S0_10.out
  have qS1 := S1_10.out
  have qS2 := S2_10.out
  have qS3 := S3_10.out
  have qJ0 := J0_10.out
  have qJ1 := J1_10.out
  have qJ2 := J2_10.out
  have qJ3 := J3_10.out
  go_wp2_with fail
  clear qQ0 qQ1 qQ2 qQ3 qS0 qS1 qS2 qS3 qJ0 qJ1 qJ2 qJ3
  refine (heldDisk_any 1 OY0_10.out OY1_10.out (by omega) (by have h1 := LD.out; have h2 := LM.out; omega)).mono ?_
  rintro e w11 ⟨rfl, g⟩
  have G11 := Lib.hid g; have SZ11 : Hid (w10.heap.size ≤ w11.heap.size) := Lib.hid g.size; clear g
  have OZ0_11 : Hid (OT w11 w.heap.size (.slice ZA0 D.length Zc0) D) := Lib.hid (own_bel OZ0_10.out G11.out)
  have OZ1_11 : Hid (OU w11 w.heap.size (.slice ZA1 M.length Zc1) M) := Lib.hid (own_bel OZ1_10.out G11.out)
  have Q0_11 : Hid (w11.cell? ⟨w1.heap.size, 0, none⟩ = some (.slice ZA0 D.length Zc0)) := Lib.hid (oldcell G11.out Q0_10.out)
  have Q1_11 : Hid (w11.cell? ⟨w1.heap.size, 1, none⟩ = some (.slice ZA1 M.length Zc1)) := Lib.hid (oldcell G11.out Q1_10.out)
  have Q2_11 : Hid (w11.cell? ⟨w1.heap.size, 2, none⟩ = some (.int .i64 fz)) := Lib.hid (oldcell G11.out Q2_10.out)
  have Q3_11 : Hid (w11.cell? ⟨w1.heap.size, 3, none⟩ = some (.bool false)) := Lib.hid (oldcell G11.out Q3_10.out)
  have S0_11 : Hid (w11.cell? ⟨w3.heap.size, 0, none⟩ = some (.slice YA0 D.length Yc0)) := Lib.hid (oldcell G11.out S0_10.out)
  have S1_11 : Hid (w11.cell? ⟨w3.heap.size, 1, none⟩ = some (.slice YA1 M.length Yc1)) := Lib.hid (oldcell G11.out S1_10.out)
  have S2_11 : Hid (w11.cell? ⟨w3.heap.size, 2, none⟩ = some (.int .i64 fz)) := Lib.hid (oldcell G11.out S2_10.out)
  have S3_11 : Hid (w11.cell? ⟨w3.heap.size, 3, none⟩ = some (.bool false)) := Lib.hid (oldcell G11.out S3_10.out)
  have OY0_11 : Hid (OT w11 w2.heap.size (.slice YA0 D.length Yc0) (marksT 1 D.length)) := Lib.hid (own_bel OY0_10.out G11.out)
  have OY1_11 : Hid (OU w11 w2.heap.size (.slice YA1 M.length Yc1) (marksU (1 + D.length) M.length)) := Lib.hid (own_bel OY1_10.out G11.out)
  have OC0_11 : Hid (OT w11 w7.heap.size (.slice CA0 D.length Cc0) D) := Lib.hid (own_bel OC0_10.out G11.out)
  have OC1_11 : Hid (OU w11 w7.heap.size (.slice CA1 M.length Cc1) M) := Lib.hid (own_bel OC1_10.out G11.out)
  have J0_11 : Hid (w11.cell? ⟨w8.heap.size, 0, none⟩ = some (.slice CA0 D.length Cc0)) := Lib.hid (oldcell G11.out J0_10.out)
  have J1_11 : Hid (w11.cell? ⟨w8.heap.size, 1, none⟩ = some (.slice CA1 M.length Cc1)) := Lib.hid (oldcell G11.out J1_10.out)
  have J2_11 : Hid (w11.cell? ⟨w8.heap.size, 2, none⟩ = some (.int .i64 fz)) := Lib.hid (oldcell G11.out J2_10.out)
  have J3_11 : Hid (w11.cell? ⟨w8.heap.size, 3, none⟩ = some (.bool false)) := Lib.hid (oldcell G11.out J3_10.out)
  have HB11 : Hid (Below w.heap.size w w11) := Lib.hid (HB10.out.trans (G11.out.mono HB10.out.size))
  have qQ0 := Q0_11.out
  have qQ1 := Q1_11.out
  have qQ2 := Q2_11.out
  have qQ3 := Q3_11.out
  have qS0 := S0_11.out
  have qS1 := S1_11.out
  have qS2 := S2_11.out
  have qS3 := S3_11.out
  have qJ0 := J0_11.out
  have qJ1 := J1_11.out
  have qJ2 := J2_11.out
  have qJ3 := J3_11.out
  go_wp2_with fail
  clear qQ0 qQ1 qQ2 qQ3 qS0 qS1 qS2 qS3 qJ0 qJ1 qJ2 qJ3
  go_ret
  exact ⟨rfl, HB11.out⟩
theorem own : ownKnob Try.prog.godebug = none := by kernel_rfl
theorem laidOut : laidOutB Try.prog = true := by kernel_rfl
set_option maxRecDepth 100000 in
theorem lifted (os : Os) (started : os.Started) (H : Type) (enc : TypeId × Value → H) :
    ReturnsInHanded {} Try.checked os 18 .any (Rows.fnExactFormatDiskSpec.pre6 enc Try.prog Try.f18 Rows.fnExactFormatDiskRow.domain false) (Rows.fnExactFormatDiskSpec.post enc Try.prog Try.f18 false true false false) := by
  refine returnsInHanded_of_change (C := Try.checked) own started (by kernel_rfl) Try.func18
    (ChangeSpec.witness6 (enc := enc) (C := Try.checked) false ⟨#[], #[.int .i64 0, .int .i64 0], []⟩ 8 (by kernel_rfl) (by kernel_rfl) (by kernel_rfl) (by kernel_rfl)) ?_
  intro W base args ds gs before hval0 hW hcnd _
  have hval : ∀ (j : Nat) t v, Try.f18.params[j]? = some t → args[j]? = some v → Value.okWide Try.prog W .any base t v := hval0
  have hW' := hW
  obtain ⟨p, q, hA0, hV, rfl, hfz, hnd⟩ := hW
  have hA : DataW.TrodAll enc Try.prog W 0 (fun _ => true) true Try.f18.params.toList args.toList ds p := hA0
  rw [Try.params18] at hA hval
  obtain ⟨v0, vs0, d0, ds0, p0, q0, hargs, rfl, rfl, h0, r0⟩ := trodAll_cons hA
  obtain ⟨v1, vs1, d1, ds1, p1, q1, rfl, rfl, rfl, h1, r1⟩ := trodAll_cons r0
  obtain ⟨rfl, rfl, rfl⟩ := trodAll_nil r1
  obtain rfl : args = #[v0, v1] := by cases args; simp_all
  obtain ⟨rfl, rfl⟩ := trodVars_none hV
  obtain ⟨a0, rfl, rfl, rfl, g0⟩ := open_int Try.underlying2 (hval 0 2 v0 rfl rfl) h0
  obtain ⟨a1, rfl, rfl, rfl, g1⟩ := open_int Try.underlying2 (hval 1 2 v1 rfl rfl) h1
  clear hA0 hval0
  refine (walk W _ _ g0 g1).mono fun e W' ⟨he, bel⟩ => ?_
  subst he
  exact ⟨_, rfl, _, _, _, [], _, [], hW', (trodAll_cons_mk (shut_bool Try.underlying4 _) trodAll_mk0), (trodAll_cons_mk (shut_int Try.underlying2 g0) (trodAll_cons_mk (shut_int Try.underlying2 g1) trodAll_mk0)), rfl, bel.frame _, fun h => by cases h⟩
theorem closed : joinedFacts Try.pinned.checked.prog 18 Try.f18 Rows.fnExactFormatDiskSpec Rows.fnExactFormatDiskRow = true := by
  unfold joinedFacts
  rw [mayE, lifF, mkP]
  kernel_rfl
theorem over : Rows.fnExactFormatDiskRow.holds Try.pinned (OpenSpec.ofChange Rows.fnExactFormatDiskSpec) :=
  OpenClaim.holds_of_wide 18 Try.f18 rfl rfl rfl rfl rfl rfl rfl ⟨rfl, rfl, rfl, rfl, rfl⟩ rfl rfl rfl rfl rfl (by kernel_rfl) Try.func18 closed
    (of_decide_eq_true (by kernel_rfl)) (by unfold Func.isWrapper; rw [if_neg (of_decide_eq_false (by kernel_rfl))]; exact ⟨rfl, rfl⟩)
    (fun os started H enc _ => lifted os started H enc)
theorem proved : Rows.FnExactFormatDiskSaid := over
end Go.Proofs.Ytpjkeikaonkohaa.fnExactFormatDisk
