/- The statement of the law FnExactBoundsOf: whatever the input, the program's function answers as the model's, and the input reads as it did. Its conditions are the given statement's own; nothing is added. -/
import Derived.Test.YtbghekgghiamcaaBndS
import Derived.Test.YtbghekgghiamcaaBndI
import Derived.Test.YtbghekgghiamcaaMrB
import Derived.Test.YtbghekgghiamcaaMrBs
import Derived.Test.YtbghekgghiamcaaFrmB
import Derived.ProofKit
import Derived.OpenShut
import Derived.ShutString
import Derived.ChangeOld
import Derived.Below
import Derived.Deep.DeepFit
import Derived.Deep.WholeRow
import Derived.Deep.RegionHeld3
namespace Go.Proofs.Ytbghekgghiamcaa.fnExactBoundsOf
open Go.ChangeShapes Go.WideShapes Go.ChangeAt Go.RowKit
open Go.ChangeMaps (open_string shut_string)
set_option linter.unusedVariables false
theorem sBounds_is {B : Nat} {w : World} {v : Value} {bs : List Bx} {D M : List Int} {b : Bool} (hD : bdLo bs = D) (hM : bdHi bs = M) (hb : bdOk bs = b) (h : RiB B w v bs) (hB : B ≤ w.heap.size) : Calls Try.prog 21 #[v] w (AnsAt D M (.bool b) w) := by
  subst hD hM hb; exact specBounds_any h hB
theorem pBounds_is {B : Nat} {w : World} {v : Value} {bs : List Bx} {D M : List Int} {b : Bool} (hD : bdLo bs = D) (hM : bdHi bs = M) (hb : bdOk bs = b) (h : RiB B w v bs) (hB : B ≤ w.heap.size) : Calls Try.prog 23 #[v] w (AnsAt D M (.bool b) w) := by
  subst hD hM hb; exact implBounds_any h hB
theorem bdLo_in {bs : List Bx} (h : ∀ p ∈ bs, (∀ x ∈ p.1, InI x) ∧ ∀ x ∈ p.2, InI x) : (∀ x ∈ bdLo bs, InI x) ∧ ∀ x ∈ bdHi bs, InI x := by
  unfold bdLo bdHi
  by_cases hb : bdOk bs = true
  · rw [if_pos hb, if_pos hb]
    simp only [bdOk, Bool.and_eq_true, decide_eq_true_eq] at hb
    exact bnd_in h _ (Nat.le_refl _) hb.2
  · rw [if_neg hb, if_neg hb]; exact ⟨fun x hx => by simp at hx, fun x hx => by simp at hx⟩
theorem bd_le {bs : List Bx} : (bdLo bs).length ≤ 1048576 ∧ (bdHi bs).length ≤ 1048576 := by
  unfold bdLo bdHi
  by_cases hb : bdOk bs = true
  · rw [if_pos hb, if_pos hb]
    simp only [bdOk, Bool.and_eq_true, decide_eq_true_eq] at hb
    obtain ⟨h1, h2⟩ := bnd_lens hb.1 bs.length (Nat.le_refl _) hb.2
    have h3 := box_lens hb.1 0 hb.2
    omega
  · rw [if_neg hb, if_neg hb]; simp
theorem toBoxes_h {B : Nat} {w : World} {v : Value} {bs : List Bx} (h : RiB B w v bs) (hB : B ≤ w.heap.size) (hs : SmB bs) :
    Calls Try.prog 22 #[v] w fun e w' => ∃ A1 : Option Addr, e = .returned (.slice A1 bs.length bs.length) ∧ BRowH w' w.heap.size w'.heap.size (.slice A1 bs.length bs.length) bs ∧ Below w.heap.size w w' :=
  (toBoxes_any h hB hs).mono fun e w' ⟨he, r, _, g⟩ => ⟨_, he, r.hi, g⟩
set_option maxHeartbeats 8000000 in
set_option maxRecDepth 100000 in
theorem walk (w : World) (v0_0 : Value) (xs0_0 : List Bx) (h0_0 : RiB w.heap.size w v0_0 xs0_0) :
    Calls Try.prog 5 #[v0_0] w (GivesB (.bool true) w) := by
  have H0 := Lib.hid h0_0
  obtain ⟨A0, c0, rfl, _, hc0, _⟩ := h0_0
  obtain ⟨D, hD⟩ : ∃ D, bdLo xs0_0 = D := ⟨_, rfl⟩
  obtain ⟨M, hM⟩ : ∃ D, bdHi xs0_0 = D := ⟨_, rfl⟩
  obtain ⟨ok, hE⟩ : ∃ b, bdOk xs0_0 = b := ⟨_, rfl⟩
  have HD := Lib.hid hD; have HM := Lib.hid hM; have HE := Lib.hid hE
  have ID : Hid (∀ x ∈ D, InI x) := Lib.hid (hD ▸ (bdLo_in H0.out.inI).1)
  have IM : Hid (∀ x ∈ M, InI x) := Lib.hid (hM ▸ (bdLo_in H0.out.inI).2)
  have LD : Hid (D.length ≤ 1048576) := Lib.hid (hD ▸ bd_le.1)
  have LM : Hid (M.length ≤ 1048576) := Lib.hid (hM ▸ bd_le.2)
  clear hD hM hE hc0
  have HB0 : Hid (Below w.heap.size w w) := Lib.hid (Below.refl _ _)
  have SZ0 : Hid (w.heap.size ≤ w.heap.size) := Lib.hid (Nat.le_refl _)
  go_enter Try.func5, Try.ntmps5
  go_wp2_with fail
  refine (szBoxes_any (H0.out.at (Nat.le_refl _) HB0.out) (Nat.le_refl _) (1048576) (by omega) (by omega)).mono ?_
  rintro e w1 ⟨l0, rfl, hl0, hL0, hp0, g⟩
  have P0 := Lib.hid hp0; have G1 := Lib.hid g; have SZ1 : Hid (w.heap.size ≤ w1.heap.size) := Lib.hid g.size; clear hp0 g
  have HB1 : Hid (Below w.heap.size w w1) := Lib.hid (HB0.out.trans (G1.out.mono HB0.out.size))
  by_cases neg0 : l0 < 0
  · go_wp2_with fail
    go_ret
    exact ⟨rfl, HB1.out⟩
  have SM := Lib.hid (P0.out (by omega))
  go_wp2_with fail
  refine (toBoxes_h (H0.out.at (Nat.le_refl _) HB1.out) (Nat.le_refl _) SM.out).mono ?_
  rintro e w2 ⟨TA, rfl, oa, g⟩
  have G2 := Lib.hid g; have SZ2 : Hid (w1.heap.size ≤ w2.heap.size) := Lib.hid g.size; clear g
  have HB2 : Hid (Below w.heap.size w w2) := Lib.hid (HB1.out.trans (G2.out.mono HB1.out.size))
  have OT_2 : Hid (BRowH w2 w1.heap.size w2.heap.size (.slice TA xs0_0.length xs0_0.length) xs0_0) := Lib.hid oa; clear oa
  go_wp2_with fail
  refine (sBounds_is HD.out HM.out HE.out (OT_2.out.rib SM.out H0.out.inI) (Nat.le_refl _)).mono ?_
  rintro e w3 ⟨ZA0, ZA1, Zc0, Zc1, rfl, oa, ob, hap, g⟩
  have G3 := Lib.hid g; have SZ3 : Hid (w2.heap.size ≤ w3.heap.size) := Lib.hid g.size; clear g
  have OT_3 : Hid (BRowH w3 w1.heap.size w2.heap.size (.slice TA xs0_0.length xs0_0.length) xs0_0) := Lib.hid (OT_2.out.keep (by have s0 := SZ0.out; have s1 := SZ1.out; have s2 := SZ2.out; omega) G3.out)
  have HB3 : Hid (Below w.heap.size w w3) := Lib.hid (HB2.out.trans (G3.out.mono HB2.out.size))
  have OZ0_3 : Hid (OI w3 w2.heap.size (.slice ZA0 D.length Zc0) D) := Lib.hid oa; clear oa
  have OZ1_3 : Hid (OI w3 w2.heap.size (.slice ZA1 M.length Zc1) M) := Lib.hid ob; clear ob
  have XZ := Lib.hid hap; clear hap
  have IZ0 := Lib.hid OZ0_3.out.wi; have IZ1 := Lib.hid OZ1_3.out.wi
  have G4 : Hid (Below w3.heap.size w3 (w3.alloc (.cells #[.slice ZA0 D.length Zc0, .slice ZA1 M.length Zc1] 43))) := Lib.hid ((Below.refl _ _).alloc (Nat.le_refl _) _)
  have SZ4 : Hid (w3.heap.size + 1 ≤ (w3.alloc (.cells #[.slice ZA0 D.length Zc0, .slice ZA1 M.length Zc1] 43)).heap.size) := Lib.hid (by simp)
  have OZ0_4 : Hid (OI (w3.alloc (.cells #[.slice ZA0 D.length Zc0, .slice ZA1 M.length Zc1] 43)) w2.heap.size (.slice ZA0 D.length Zc0) D) := Lib.hid (OZ0_3.out.bel G4.out)
  have OZ1_4 : Hid (OI (w3.alloc (.cells #[.slice ZA0 D.length Zc0, .slice ZA1 M.length Zc1] 43)) w2.heap.size (.slice ZA1 M.length Zc1) M) := Lib.hid (OZ1_3.out.bel G4.out)
  have HB4 : Hid (Below w.heap.size w (w3.alloc (.cells #[.slice ZA0 D.length Zc0, .slice ZA1 M.length Zc1] 43))) := Lib.hid (HB3.out.trans (G4.out.mono HB3.out.size))
  have Q0_4 : Hid ((w3.alloc (.cells #[.slice ZA0 D.length Zc0, .slice ZA1 M.length Zc1] 43)).cell? ⟨w3.heap.size, 0, none⟩ = some (.slice ZA0 D.length Zc0)) := Lib.hid (by rw [cell_of_row _ _ _ _ _ _ (heap_alloc_new w3 _)]; rfl)
  have Q1_4 : Hid ((w3.alloc (.cells #[.slice ZA0 D.length Zc0, .slice ZA1 M.length Zc1] 43)).cell? ⟨w3.heap.size, 1, none⟩ = some (.slice ZA1 M.length Zc1)) := Lib.hid (by rw [cell_of_row _ _ _ _ _ _ (heap_alloc_new w3 _)]; rfl)
  have qQ0 := Q0_4.out
  have qQ1 := Q1_4.out
  go_wp2_with fail
  clear qQ0 qQ1
  generalize (w3.alloc (.cells #[.slice ZA0 D.length Zc0, .slice ZA1 M.length Zc1] 43)) = w4 at *
  refine (toBoxes_h (H0.out.at (Nat.le_refl _) HB4.out) (Nat.le_refl _) SM.out).mono ?_
  rintro e w5 ⟨VA, rfl, oa, g⟩
  have G5 := Lib.hid g; have SZ5 : Hid (w4.heap.size ≤ w5.heap.size) := Lib.hid g.size; clear g
  have OZ0_5 : Hid (OI w5 w2.heap.size (.slice ZA0 D.length Zc0) D) := Lib.hid (OZ0_4.out.bel G5.out)
  have OZ1_5 : Hid (OI w5 w2.heap.size (.slice ZA1 M.length Zc1) M) := Lib.hid (OZ1_4.out.bel G5.out)
  have Q0_5 : Hid (w5.cell? ⟨w3.heap.size, 0, none⟩ = some (.slice ZA0 D.length Zc0)) := Lib.hid (oldcell G5.out Q0_4.out)
  have Q1_5 : Hid (w5.cell? ⟨w3.heap.size, 1, none⟩ = some (.slice ZA1 M.length Zc1)) := Lib.hid (oldcell G5.out Q1_4.out)
  have HB5 : Hid (Below w.heap.size w w5) := Lib.hid (HB4.out.trans (G5.out.mono HB4.out.size))
  have OV_5 : Hid (BRowH w5 w4.heap.size w5.heap.size (.slice VA xs0_0.length xs0_0.length) xs0_0) := Lib.hid oa; clear oa
  have qQ0 := Q0_5.out
  have qQ1 := Q1_5.out
  go_wp2_with fail
  clear qQ0 qQ1
  refine (pBounds_is HD.out HM.out HE.out (OV_5.out.rib SM.out H0.out.inI) (Nat.le_refl _)).mono ?_
  rintro e w6 ⟨YA0, YA1, Yc0, Yc1, rfl, oa, ob, hap, g⟩
  have G6 := Lib.hid g; have SZ6 : Hid (w5.heap.size ≤ w6.heap.size) := Lib.hid g.size; clear g
  have OZ0_6 : Hid (OI w6 w2.heap.size (.slice ZA0 D.length Zc0) D) := Lib.hid (OZ0_5.out.bel G6.out)
  have OZ1_6 : Hid (OI w6 w2.heap.size (.slice ZA1 M.length Zc1) M) := Lib.hid (OZ1_5.out.bel G6.out)
  have Q0_6 : Hid (w6.cell? ⟨w3.heap.size, 0, none⟩ = some (.slice ZA0 D.length Zc0)) := Lib.hid (oldcell G6.out Q0_5.out)
  have Q1_6 : Hid (w6.cell? ⟨w3.heap.size, 1, none⟩ = some (.slice ZA1 M.length Zc1)) := Lib.hid (oldcell G6.out Q1_5.out)
  have OV_6 : Hid (BRowH w6 w4.heap.size w5.heap.size (.slice VA xs0_0.length xs0_0.length) xs0_0) := Lib.hid (OV_5.out.keep (by have s0 := SZ0.out; have s1 := SZ1.out; have s2 := SZ2.out; have s3 := SZ3.out; have s4 := SZ4.out; have s5 := SZ5.out; omega) G6.out)
  have HB6 : Hid (Below w.heap.size w w6) := Lib.hid (HB5.out.trans (G6.out.mono HB5.out.size))
  have OY0_6 : Hid (OI w6 w5.heap.size (.slice YA0 D.length Yc0) D) := Lib.hid oa; clear oa
  have OY1_6 : Hid (OI w6 w5.heap.size (.slice YA1 M.length Yc1) M) := Lib.hid ob; clear ob
  have XY := Lib.hid hap; clear hap
  have IY0 := Lib.hid OY0_6.out.wi; have IY1 := Lib.hid OY1_6.out.wi
  have G7 : Hid (Below w6.heap.size w6 (w6.alloc (.cells #[.slice YA0 D.length Yc0, .slice YA1 M.length Yc1] 43))) := Lib.hid ((Below.refl _ _).alloc (Nat.le_refl _) _)
  have SZ7 : Hid (w6.heap.size + 1 ≤ (w6.alloc (.cells #[.slice YA0 D.length Yc0, .slice YA1 M.length Yc1] 43)).heap.size) := Lib.hid (by simp)
  have OZ0_7 : Hid (OI (w6.alloc (.cells #[.slice YA0 D.length Yc0, .slice YA1 M.length Yc1] 43)) w2.heap.size (.slice ZA0 D.length Zc0) D) := Lib.hid (OZ0_6.out.bel G7.out)
  have OZ1_7 : Hid (OI (w6.alloc (.cells #[.slice YA0 D.length Yc0, .slice YA1 M.length Yc1] 43)) w2.heap.size (.slice ZA1 M.length Zc1) M) := Lib.hid (OZ1_6.out.bel G7.out)
  have Q0_7 : Hid ((w6.alloc (.cells #[.slice YA0 D.length Yc0, .slice YA1 M.length Yc1] 43)).cell? ⟨w3.heap.size, 0, none⟩ = some (.slice ZA0 D.length Zc0)) := Lib.hid (oldcell G7.out Q0_6.out)
  have Q1_7 : Hid ((w6.alloc (.cells #[.slice YA0 D.length Yc0, .slice YA1 M.length Yc1] 43)).cell? ⟨w3.heap.size, 1, none⟩ = some (.slice ZA1 M.length Zc1)) := Lib.hid (oldcell G7.out Q1_6.out)
  have OV_7 : Hid (BRowH (w6.alloc (.cells #[.slice YA0 D.length Yc0, .slice YA1 M.length Yc1] 43)) w4.heap.size w5.heap.size (.slice VA xs0_0.length xs0_0.length) xs0_0) := Lib.hid (OV_6.out.keep (by have s0 := SZ0.out; have s1 := SZ1.out; have s2 := SZ2.out; have s3 := SZ3.out; have s4 := SZ4.out; have s5 := SZ5.out; have s6 := SZ6.out; omega) G7.out)
  have OY0_7 : Hid (OI (w6.alloc (.cells #[.slice YA0 D.length Yc0, .slice YA1 M.length Yc1] 43)) w5.heap.size (.slice YA0 D.length Yc0) D) := Lib.hid (OY0_6.out.bel G7.out)
  have OY1_7 : Hid (OI (w6.alloc (.cells #[.slice YA0 D.length Yc0, .slice YA1 M.length Yc1] 43)) w5.heap.size (.slice YA1 M.length Yc1) M) := Lib.hid (OY1_6.out.bel G7.out)
  have HB7 : Hid (Below w.heap.size w (w6.alloc (.cells #[.slice YA0 D.length Yc0, .slice YA1 M.length Yc1] 43))) := Lib.hid (HB6.out.trans (G7.out.mono HB6.out.size))
  have S0_7 : Hid ((w6.alloc (.cells #[.slice YA0 D.length Yc0, .slice YA1 M.length Yc1] 43)).cell? ⟨w6.heap.size, 0, none⟩ = some (.slice YA0 D.length Yc0)) := Lib.hid (by rw [cell_of_row _ _ _ _ _ _ (heap_alloc_new w6 _)]; rfl)
  have S1_7 : Hid ((w6.alloc (.cells #[.slice YA0 D.length Yc0, .slice YA1 M.length Yc1] 43)).cell? ⟨w6.heap.size, 1, none⟩ = some (.slice YA1 M.length Yc1)) := Lib.hid (by rw [cell_of_row _ _ _ _ _ _ (heap_alloc_new w6 _)]; rfl)
  have qQ0 := Q0_7.out
  have qQ1 := Q1_7.out
  have qS0 := S0_7.out
  have qS1 := S1_7.out
  go_wp2_with fail
  clear qQ0 qQ1 qS0 qS1
  generalize (w6.alloc (.cells #[.slice YA0 D.length Yc0, .slice YA1 M.length Yc1] 43)) = w7 at *
  refine (eqBox_any (OY0_7.out.ri ID.out) (OY1_7.out.ri IM.out) (OZ0_7.out.ri ID.out) (OZ1_7.out.ri IM.out) (Nat.le_refl _)).mono ?_
  rintro e w8 ⟨rfl, g⟩
  have G8 := Lib.hid g; have SZ8 : Hid (w7.heap.size ≤ w8.heap.size) := Lib.hid g.size; clear g
  have OZ0_8 : Hid (OI w8 w2.heap.size (.slice ZA0 D.length Zc0) D) := Lib.hid (OZ0_7.out.bel G8.out)
  have OZ1_8 : Hid (OI w8 w2.heap.size (.slice ZA1 M.length Zc1) M) := Lib.hid (OZ1_7.out.bel G8.out)
  have Q0_8 : Hid (w8.cell? ⟨w3.heap.size, 0, none⟩ = some (.slice ZA0 D.length Zc0)) := Lib.hid (oldcell G8.out Q0_7.out)
  have Q1_8 : Hid (w8.cell? ⟨w3.heap.size, 1, none⟩ = some (.slice ZA1 M.length Zc1)) := Lib.hid (oldcell G8.out Q1_7.out)
  have OV_8 : Hid (BRowH w8 w4.heap.size w5.heap.size (.slice VA xs0_0.length xs0_0.length) xs0_0) := Lib.hid (OV_7.out.keep (by have s0 := SZ0.out; have s1 := SZ1.out; have s2 := SZ2.out; have s3 := SZ3.out; have s4 := SZ4.out; have s5 := SZ5.out; have s6 := SZ6.out; have s7 := SZ7.out; omega) G8.out)
  have OY0_8 : Hid (OI w8 w5.heap.size (.slice YA0 D.length Yc0) D) := Lib.hid (OY0_7.out.bel G8.out)
  have OY1_8 : Hid (OI w8 w5.heap.size (.slice YA1 M.length Yc1) M) := Lib.hid (OY1_7.out.bel G8.out)
  have S0_8 : Hid (w8.cell? ⟨w6.heap.size, 0, none⟩ = some (.slice YA0 D.length Yc0)) := Lib.hid (oldcell G8.out S0_7.out)
  have S1_8 : Hid (w8.cell? ⟨w6.heap.size, 1, none⟩ = some (.slice YA1 M.length Yc1)) := Lib.hid (oldcell G8.out S1_7.out)
  have HB8 : Hid (Below w.heap.size w w8) := Lib.hid (HB7.out.trans (G8.out.mono HB7.out.size))
  have qQ0 := Q0_8.out
  have qQ1 := Q1_8.out
  have qS0 := S0_8.out
  have qS1 := S1_8.out
  go_wp2_with fail
  clear qQ0 qQ1 qS0 qS1
  refine (toBoxes_h (H0.out.at (Nat.le_refl _) HB8.out) (Nat.le_refl _) SM.out).mono ?_
  rintro e w9 ⟨NA, rfl, oa, g⟩
  have G9 := Lib.hid g; have SZ9 : Hid (w8.heap.size ≤ w9.heap.size) := Lib.hid g.size; clear g
  have OZ0_9 : Hid (OI w9 w2.heap.size (.slice ZA0 D.length Zc0) D) := Lib.hid (OZ0_8.out.bel G9.out)
  have OZ1_9 : Hid (OI w9 w2.heap.size (.slice ZA1 M.length Zc1) M) := Lib.hid (OZ1_8.out.bel G9.out)
  have Q0_9 : Hid (w9.cell? ⟨w3.heap.size, 0, none⟩ = some (.slice ZA0 D.length Zc0)) := Lib.hid (oldcell G9.out Q0_8.out)
  have Q1_9 : Hid (w9.cell? ⟨w3.heap.size, 1, none⟩ = some (.slice ZA1 M.length Zc1)) := Lib.hid (oldcell G9.out Q1_8.out)
  have OV_9 : Hid (BRowH w9 w4.heap.size w5.heap.size (.slice VA xs0_0.length xs0_0.length) xs0_0) := Lib.hid (OV_8.out.keep (by have s0 := SZ0.out; have s1 := SZ1.out; have s2 := SZ2.out; have s3 := SZ3.out; have s4 := SZ4.out; have s5 := SZ5.out; have s6 := SZ6.out; have s7 := SZ7.out; have s8 := SZ8.out; omega) G9.out)
  have OY0_9 : Hid (OI w9 w5.heap.size (.slice YA0 D.length Yc0) D) := Lib.hid (OY0_8.out.bel G9.out)
  have OY1_9 : Hid (OI w9 w5.heap.size (.slice YA1 M.length Yc1) M) := Lib.hid (OY1_8.out.bel G9.out)
  have S0_9 : Hid (w9.cell? ⟨w6.heap.size, 0, none⟩ = some (.slice YA0 D.length Yc0)) := Lib.hid (oldcell G9.out S0_8.out)
  have S1_9 : Hid (w9.cell? ⟨w6.heap.size, 1, none⟩ = some (.slice YA1 M.length Yc1)) := Lib.hid (oldcell G9.out S1_8.out)
  have HB9 : Hid (Below w.heap.size w w9) := Lib.hid (HB8.out.trans (G9.out.mono HB8.out.size))
  have ON_9 : Hid (BRowH w9 w8.heap.size w9.heap.size (.slice NA xs0_0.length xs0_0.length) xs0_0) := Lib.hid oa; clear oa
  have qQ0 := Q0_9.out
  have qQ1 := Q1_9.out
  have qS0 := S0_9.out
  have qS1 := S1_9.out
  go_wp2_with fail
  clear qQ0 qQ1 qS0 qS1
  refine (eqBoxes_any (OV_9.out.rib SM.out H0.out.inI) (ON_9.out.rib SM.out H0.out.inI) (Nat.le_refl _)).mono ?_
  rintro e w10 ⟨rfl, g⟩
  have G10 := Lib.hid g; have SZ10 : Hid (w9.heap.size ≤ w10.heap.size) := Lib.hid g.size; clear g
  have OZ0_10 : Hid (OI w10 w2.heap.size (.slice ZA0 D.length Zc0) D) := Lib.hid (OZ0_9.out.bel G10.out)
  have OZ1_10 : Hid (OI w10 w2.heap.size (.slice ZA1 M.length Zc1) M) := Lib.hid (OZ1_9.out.bel G10.out)
  have Q0_10 : Hid (w10.cell? ⟨w3.heap.size, 0, none⟩ = some (.slice ZA0 D.length Zc0)) := Lib.hid (oldcell G10.out Q0_9.out)
  have Q1_10 : Hid (w10.cell? ⟨w3.heap.size, 1, none⟩ = some (.slice ZA1 M.length Zc1)) := Lib.hid (oldcell G10.out Q1_9.out)
  have OV_10 : Hid (BRowH w10 w4.heap.size w5.heap.size (.slice VA xs0_0.length xs0_0.length) xs0_0) := Lib.hid (OV_9.out.keep (by have s0 := SZ0.out; have s1 := SZ1.out; have s2 := SZ2.out; have s3 := SZ3.out; have s4 := SZ4.out; have s5 := SZ5.out; have s6 := SZ6.out; have s7 := SZ7.out; have s8 := SZ8.out; have s9 := SZ9.out; omega) G10.out)
  have OY0_10 : Hid (OI w10 w5.heap.size (.slice YA0 D.length Yc0) D) := Lib.hid (OY0_9.out.bel G10.out)
  have OY1_10 : Hid (OI w10 w5.heap.size (.slice YA1 M.length Yc1) M) := Lib.hid (OY1_9.out.bel G10.out)
  have S0_10 : Hid (w10.cell? ⟨w6.heap.size, 0, none⟩ = some (.slice YA0 D.length Yc0)) := Lib.hid (oldcell G10.out S0_9.out)
  have S1_10 : Hid (w10.cell? ⟨w6.heap.size, 1, none⟩ = some (.slice YA1 M.length Yc1)) := Lib.hid (oldcell G10.out S1_9.out)
  have ON_10 : Hid (BRowH w10 w8.heap.size w9.heap.size (.slice NA xs0_0.length xs0_0.length) xs0_0) := Lib.hid (ON_9.out.keep (by have s0 := SZ0.out; have s1 := SZ1.out; have s2 := SZ2.out; have s3 := SZ3.out; have s4 := SZ4.out; have s5 := SZ5.out; have s6 := SZ6.out; have s7 := SZ7.out; have s8 := SZ8.out; have s9 := SZ9.out; omega) G10.out)
  have HB10 : Hid (Below w.heap.size w w10) := Lib.hid (HB9.out.trans (G10.out.mono HB9.out.size))
  have qQ0 := Q0_10.out
  have qQ1 := Q1_10.out
  have qS0 := S0_10.out
  have qS1 := S1_10.out
  go_wp2_with fail
  clear qQ0 qQ1 qS0 qS1
  refine (markBoxes_any OV_10.out SM.out).mono ?_
  rintro e w11 ⟨⟨nk, rfl⟩, mm⟩
  have Mv11 : Hid (Mv w4.heap.size w5.heap.size w10 w11) := Lib.hid (mm)
  have SZ11 : Hid (w10.heap.size ≤ w11.heap.size) := Lib.hid Mv11.out.2.2.2.1
  have OZ0_11 : Hid (OI w11 w2.heap.size (.slice ZA0 D.length Zc0) D) := Lib.hid (OZ0_10.out.mv Mv11.out (fun g hg => by have := IZ0.out g hg; have s0 := SZ0.out; have s1 := SZ1.out; have s2 := SZ2.out; have s3 := SZ3.out; have s4 := SZ4.out; have s5 := SZ5.out; have s6 := SZ6.out; have s7 := SZ7.out; have s8 := SZ8.out; have s9 := SZ9.out; have s10 := SZ10.out; have s11 := SZ11.out; omega))
  have OZ1_11 : Hid (OI w11 w2.heap.size (.slice ZA1 M.length Zc1) M) := Lib.hid (OZ1_10.out.mv Mv11.out (fun g hg => by have := IZ1.out g hg; have s0 := SZ0.out; have s1 := SZ1.out; have s2 := SZ2.out; have s3 := SZ3.out; have s4 := SZ4.out; have s5 := SZ5.out; have s6 := SZ6.out; have s7 := SZ7.out; have s8 := SZ8.out; have s9 := SZ9.out; have s10 := SZ10.out; have s11 := SZ11.out; omega))
  have Q0_11 : Hid (w11.cell? ⟨w3.heap.size, 0, none⟩ = some (.slice ZA0 D.length Zc0)) := Lib.hid (Mv11.out.cell Q0_10.out (by have s0 := SZ0.out; have s1 := SZ1.out; have s2 := SZ2.out; have s3 := SZ3.out; have s4 := SZ4.out; have s5 := SZ5.out; have s6 := SZ6.out; have s7 := SZ7.out; have s8 := SZ8.out; have s9 := SZ9.out; have s10 := SZ10.out; have s11 := SZ11.out; simp only; omega))
  have Q1_11 : Hid (w11.cell? ⟨w3.heap.size, 1, none⟩ = some (.slice ZA1 M.length Zc1)) := Lib.hid (Mv11.out.cell Q1_10.out (by have s0 := SZ0.out; have s1 := SZ1.out; have s2 := SZ2.out; have s3 := SZ3.out; have s4 := SZ4.out; have s5 := SZ5.out; have s6 := SZ6.out; have s7 := SZ7.out; have s8 := SZ8.out; have s9 := SZ9.out; have s10 := SZ10.out; have s11 := SZ11.out; simp only; omega))
  have OY0_11 : Hid (OI w11 w5.heap.size (.slice YA0 D.length Yc0) D) := Lib.hid (OY0_10.out.mv Mv11.out (fun g hg => by have := IY0.out g hg; have s0 := SZ0.out; have s1 := SZ1.out; have s2 := SZ2.out; have s3 := SZ3.out; have s4 := SZ4.out; have s5 := SZ5.out; have s6 := SZ6.out; have s7 := SZ7.out; have s8 := SZ8.out; have s9 := SZ9.out; have s10 := SZ10.out; have s11 := SZ11.out; omega))
  have OY1_11 : Hid (OI w11 w5.heap.size (.slice YA1 M.length Yc1) M) := Lib.hid (OY1_10.out.mv Mv11.out (fun g hg => by have := IY1.out g hg; have s0 := SZ0.out; have s1 := SZ1.out; have s2 := SZ2.out; have s3 := SZ3.out; have s4 := SZ4.out; have s5 := SZ5.out; have s6 := SZ6.out; have s7 := SZ7.out; have s8 := SZ8.out; have s9 := SZ9.out; have s10 := SZ10.out; have s11 := SZ11.out; omega))
  have S0_11 : Hid (w11.cell? ⟨w6.heap.size, 0, none⟩ = some (.slice YA0 D.length Yc0)) := Lib.hid (Mv11.out.cell S0_10.out (by have s0 := SZ0.out; have s1 := SZ1.out; have s2 := SZ2.out; have s3 := SZ3.out; have s4 := SZ4.out; have s5 := SZ5.out; have s6 := SZ6.out; have s7 := SZ7.out; have s8 := SZ8.out; have s9 := SZ9.out; have s10 := SZ10.out; have s11 := SZ11.out; simp only; omega))
  have S1_11 : Hid (w11.cell? ⟨w6.heap.size, 1, none⟩ = some (.slice YA1 M.length Yc1)) := Lib.hid (Mv11.out.cell S1_10.out (by have s0 := SZ0.out; have s1 := SZ1.out; have s2 := SZ2.out; have s3 := SZ3.out; have s4 := SZ4.out; have s5 := SZ5.out; have s6 := SZ6.out; have s7 := SZ7.out; have s8 := SZ8.out; have s9 := SZ9.out; have s10 := SZ10.out; have s11 := SZ11.out; simp only; omega))
  have HB11 : Hid (Below w.heap.size w w11) := Lib.hid (Mv11.out.below HB10.out (by have s0 := SZ0.out; have s1 := SZ1.out; have s2 := SZ2.out; have s3 := SZ3.out; have s4 := SZ4.out; have s5 := SZ5.out; have s6 := SZ6.out; have s7 := SZ7.out; have s8 := SZ8.out; have s9 := SZ9.out; have s10 := SZ10.out; have s11 := SZ11.out; omega) HB10.out.size)
  have neg1 : ¬ ((nk : Int) < 0) := by omega
  have qQ0 := Q0_11.out
  have qQ1 := Q1_11.out
  have qS0 := S0_11.out
  have qS1 := S1_11.out
  go_wp2_with fail
  clear qQ0 qQ1 qS0 qS1
  refine (eqBox_any (OY0_11.out.ri ID.out) (OY1_11.out.ri IM.out) (OZ0_11.out.ri ID.out) (OZ1_11.out.ri IM.out) (Nat.le_refl _)).mono ?_
  rintro e w12 ⟨rfl, g⟩
  have G12 := Lib.hid g; have SZ12 : Hid (w11.heap.size ≤ w12.heap.size) := Lib.hid g.size; clear g
  have OZ0_12 : Hid (OI w12 w2.heap.size (.slice ZA0 D.length Zc0) D) := Lib.hid (OZ0_11.out.bel G12.out)
  have OZ1_12 : Hid (OI w12 w2.heap.size (.slice ZA1 M.length Zc1) M) := Lib.hid (OZ1_11.out.bel G12.out)
  have Q0_12 : Hid (w12.cell? ⟨w3.heap.size, 0, none⟩ = some (.slice ZA0 D.length Zc0)) := Lib.hid (oldcell G12.out Q0_11.out)
  have Q1_12 : Hid (w12.cell? ⟨w3.heap.size, 1, none⟩ = some (.slice ZA1 M.length Zc1)) := Lib.hid (oldcell G12.out Q1_11.out)
  have OY0_12 : Hid (OI w12 w5.heap.size (.slice YA0 D.length Yc0) D) := Lib.hid (OY0_11.out.bel G12.out)
  have OY1_12 : Hid (OI w12 w5.heap.size (.slice YA1 M.length Yc1) M) := Lib.hid (OY1_11.out.bel G12.out)
  have S0_12 : Hid (w12.cell? ⟨w6.heap.size, 0, none⟩ = some (.slice YA0 D.length Yc0)) := Lib.hid (oldcell G12.out S0_11.out)
  have S1_12 : Hid (w12.cell? ⟨w6.heap.size, 1, none⟩ = some (.slice YA1 M.length Yc1)) := Lib.hid (oldcell G12.out S1_11.out)
  have HB12 : Hid (Below w.heap.size w w12) := Lib.hid (HB11.out.trans (G12.out.mono HB11.out.size))
  have qQ0 := Q0_12.out
  have qQ1 := Q1_12.out
  have qS0 := S0_12.out
  have qS1 := S1_12.out
  go_wp2_with fail
  clear qQ0 qQ1 qS0 qS1
  refine (markBox_any (lo := w5.heap.size) (hi := w6.heap.size) OY0_12.out OY1_12.out IY0.out IY1.out XY.out (by have s0 := SZ0.out; have s1 := SZ1.out; have s2 := SZ2.out; have s3 := SZ3.out; have s4 := SZ4.out; have s5 := SZ5.out; have s6 := SZ6.out; have s7 := SZ7.out; have s8 := SZ8.out; have s9 := SZ9.out; have s10 := SZ10.out; have s11 := SZ11.out; have s12 := SZ12.out; omega) 1 (by have h1 := LD.out; have h2 := LM.out; omega)).mono ?_
  rintro e w13 ⟨rfl, oa, ob, mm⟩
  have Mv13 : Hid (Mv w5.heap.size w6.heap.size w12 w13) := Lib.hid (mm)
  have SZ13 : Hid (w12.heap.size ≤ w13.heap.size) := Lib.hid Mv13.out.2.2.2.1
  have OZ0_13 : Hid (OI w13 w2.heap.size (.slice ZA0 D.length Zc0) D) := Lib.hid (OZ0_12.out.mv Mv13.out (fun g hg => by have := IZ0.out g hg; have s0 := SZ0.out; have s1 := SZ1.out; have s2 := SZ2.out; have s3 := SZ3.out; have s4 := SZ4.out; have s5 := SZ5.out; have s6 := SZ6.out; have s7 := SZ7.out; have s8 := SZ8.out; have s9 := SZ9.out; have s10 := SZ10.out; have s11 := SZ11.out; have s12 := SZ12.out; have s13 := SZ13.out; omega))
  have OZ1_13 : Hid (OI w13 w2.heap.size (.slice ZA1 M.length Zc1) M) := Lib.hid (OZ1_12.out.mv Mv13.out (fun g hg => by have := IZ1.out g hg; have s0 := SZ0.out; have s1 := SZ1.out; have s2 := SZ2.out; have s3 := SZ3.out; have s4 := SZ4.out; have s5 := SZ5.out; have s6 := SZ6.out; have s7 := SZ7.out; have s8 := SZ8.out; have s9 := SZ9.out; have s10 := SZ10.out; have s11 := SZ11.out; have s12 := SZ12.out; have s13 := SZ13.out; omega))
  have Q0_13 : Hid (w13.cell? ⟨w3.heap.size, 0, none⟩ = some (.slice ZA0 D.length Zc0)) := Lib.hid (Mv13.out.cell Q0_12.out (by have s0 := SZ0.out; have s1 := SZ1.out; have s2 := SZ2.out; have s3 := SZ3.out; have s4 := SZ4.out; have s5 := SZ5.out; have s6 := SZ6.out; have s7 := SZ7.out; have s8 := SZ8.out; have s9 := SZ9.out; have s10 := SZ10.out; have s11 := SZ11.out; have s12 := SZ12.out; have s13 := SZ13.out; simp only; omega))
  have Q1_13 : Hid (w13.cell? ⟨w3.heap.size, 1, none⟩ = some (.slice ZA1 M.length Zc1)) := Lib.hid (Mv13.out.cell Q1_12.out (by have s0 := SZ0.out; have s1 := SZ1.out; have s2 := SZ2.out; have s3 := SZ3.out; have s4 := SZ4.out; have s5 := SZ5.out; have s6 := SZ6.out; have s7 := SZ7.out; have s8 := SZ8.out; have s9 := SZ9.out; have s10 := SZ10.out; have s11 := SZ11.out; have s12 := SZ12.out; have s13 := SZ13.out; simp only; omega))
  have S0_13 : Hid (w13.cell? ⟨w6.heap.size, 0, none⟩ = some (.slice YA0 D.length Yc0)) := Lib.hid (Mv13.out.cell S0_12.out (by have s0 := SZ0.out; have s1 := SZ1.out; have s2 := SZ2.out; have s3 := SZ3.out; have s4 := SZ4.out; have s5 := SZ5.out; have s6 := SZ6.out; have s7 := SZ7.out; have s8 := SZ8.out; have s9 := SZ9.out; have s10 := SZ10.out; have s11 := SZ11.out; have s12 := SZ12.out; have s13 := SZ13.out; simp only; omega))
  have S1_13 : Hid (w13.cell? ⟨w6.heap.size, 1, none⟩ = some (.slice YA1 M.length Yc1)) := Lib.hid (Mv13.out.cell S1_12.out (by have s0 := SZ0.out; have s1 := SZ1.out; have s2 := SZ2.out; have s3 := SZ3.out; have s4 := SZ4.out; have s5 := SZ5.out; have s6 := SZ6.out; have s7 := SZ7.out; have s8 := SZ8.out; have s9 := SZ9.out; have s10 := SZ10.out; have s11 := SZ11.out; have s12 := SZ12.out; have s13 := SZ13.out; simp only; omega))
  have HB13 : Hid (Below w.heap.size w w13) := Lib.hid (Mv13.out.below HB12.out (by have s0 := SZ0.out; have s1 := SZ1.out; have s2 := SZ2.out; have s3 := SZ3.out; have s4 := SZ4.out; have s5 := SZ5.out; have s6 := SZ6.out; have s7 := SZ7.out; have s8 := SZ8.out; have s9 := SZ9.out; have s10 := SZ10.out; have s11 := SZ11.out; have s12 := SZ12.out; have s13 := SZ13.out; omega) HB12.out.size)
  have OY0_13 : Hid (OI w13 w5.heap.size (.slice YA0 D.length Yc0) (marks 1 D.length)) := Lib.hid oa; have OY1_13 : Hid (OI w13 w5.heap.size (.slice YA1 M.length Yc1) (marks (1 + D.length) M.length)) := Lib.hid ob; clear oa ob
  have neg2 : ¬ (((1 + D.length + M.length : Nat) : Int) < 0) := by omega
  have qQ0 := Q0_13.out
  have qQ1 := Q1_13.out
  have qS0 := S0_13.out
  have qS1 := S1_13.out
  go_wp2_with fail
  clear qQ0 qQ1 qS0 qS1
  refine (heldBox_any 1 OY0_13.out OY1_13.out (by have h1 := LD.out; have h2 := LM.out; omega)).mono ?_
  rintro e w14 ⟨rfl, g⟩
  have G14 := Lib.hid g; have SZ14 : Hid (w13.heap.size ≤ w14.heap.size) := Lib.hid g.size; clear g
  have OZ0_14 : Hid (OI w14 w2.heap.size (.slice ZA0 D.length Zc0) D) := Lib.hid (OZ0_13.out.bel G14.out)
  have OZ1_14 : Hid (OI w14 w2.heap.size (.slice ZA1 M.length Zc1) M) := Lib.hid (OZ1_13.out.bel G14.out)
  have Q0_14 : Hid (w14.cell? ⟨w3.heap.size, 0, none⟩ = some (.slice ZA0 D.length Zc0)) := Lib.hid (oldcell G14.out Q0_13.out)
  have Q1_14 : Hid (w14.cell? ⟨w3.heap.size, 1, none⟩ = some (.slice ZA1 M.length Zc1)) := Lib.hid (oldcell G14.out Q1_13.out)
  have S0_14 : Hid (w14.cell? ⟨w6.heap.size, 0, none⟩ = some (.slice YA0 D.length Yc0)) := Lib.hid (oldcell G14.out S0_13.out)
  have S1_14 : Hid (w14.cell? ⟨w6.heap.size, 1, none⟩ = some (.slice YA1 M.length Yc1)) := Lib.hid (oldcell G14.out S1_13.out)
  have OY0_14 : Hid (OI w14 w5.heap.size (.slice YA0 D.length Yc0) (marks 1 D.length)) := Lib.hid (OY0_13.out.bel G14.out)
  have OY1_14 : Hid (OI w14 w5.heap.size (.slice YA1 M.length Yc1) (marks (1 + D.length) M.length)) := Lib.hid (OY1_13.out.bel G14.out)
  have HB14 : Hid (Below w.heap.size w w14) := Lib.hid (HB13.out.trans (G14.out.mono HB13.out.size))
  have qQ0 := Q0_14.out
  have qQ1 := Q1_14.out
  have qS0 := S0_14.out
  have qS1 := S1_14.out
  go_wp2_with fail
  clear qQ0 qQ1 qS0 qS1
  refine (toBoxes_h (H0.out.at (Nat.le_refl _) HB14.out) (Nat.le_refl _) SM.out).mono ?_
  rintro e w15 ⟨EA, rfl, oa, g⟩
  have G15 := Lib.hid g; have SZ15 : Hid (w14.heap.size ≤ w15.heap.size) := Lib.hid g.size; clear g
  have OZ0_15 : Hid (OI w15 w2.heap.size (.slice ZA0 D.length Zc0) D) := Lib.hid (OZ0_14.out.bel G15.out)
  have OZ1_15 : Hid (OI w15 w2.heap.size (.slice ZA1 M.length Zc1) M) := Lib.hid (OZ1_14.out.bel G15.out)
  have Q0_15 : Hid (w15.cell? ⟨w3.heap.size, 0, none⟩ = some (.slice ZA0 D.length Zc0)) := Lib.hid (oldcell G15.out Q0_14.out)
  have Q1_15 : Hid (w15.cell? ⟨w3.heap.size, 1, none⟩ = some (.slice ZA1 M.length Zc1)) := Lib.hid (oldcell G15.out Q1_14.out)
  have S0_15 : Hid (w15.cell? ⟨w6.heap.size, 0, none⟩ = some (.slice YA0 D.length Yc0)) := Lib.hid (oldcell G15.out S0_14.out)
  have S1_15 : Hid (w15.cell? ⟨w6.heap.size, 1, none⟩ = some (.slice YA1 M.length Yc1)) := Lib.hid (oldcell G15.out S1_14.out)
  have OY0_15 : Hid (OI w15 w5.heap.size (.slice YA0 D.length Yc0) (marks 1 D.length)) := Lib.hid (OY0_14.out.bel G15.out)
  have OY1_15 : Hid (OI w15 w5.heap.size (.slice YA1 M.length Yc1) (marks (1 + D.length) M.length)) := Lib.hid (OY1_14.out.bel G15.out)
  have HB15 : Hid (Below w.heap.size w w15) := Lib.hid (HB14.out.trans (G15.out.mono HB14.out.size))
  have OE_15 : Hid (BRowH w15 w14.heap.size w15.heap.size (.slice EA xs0_0.length xs0_0.length) xs0_0) := Lib.hid oa; clear oa
  have qQ0 := Q0_15.out
  have qQ1 := Q1_15.out
  have qS0 := S0_15.out
  have qS1 := S1_15.out
  go_wp2_with fail
  clear qQ0 qQ1 qS0 qS1
  refine (pBounds_is HD.out HM.out HE.out (OE_15.out.rib SM.out H0.out.inI) (Nat.le_refl _)).mono ?_
  rintro e w16 ⟨CA0, CA1, Cc0, Cc1, rfl, oa, ob, hap, g⟩
  have G16 := Lib.hid g; have SZ16 : Hid (w15.heap.size ≤ w16.heap.size) := Lib.hid g.size; clear g
  have OZ0_16 : Hid (OI w16 w2.heap.size (.slice ZA0 D.length Zc0) D) := Lib.hid (OZ0_15.out.bel G16.out)
  have OZ1_16 : Hid (OI w16 w2.heap.size (.slice ZA1 M.length Zc1) M) := Lib.hid (OZ1_15.out.bel G16.out)
  have Q0_16 : Hid (w16.cell? ⟨w3.heap.size, 0, none⟩ = some (.slice ZA0 D.length Zc0)) := Lib.hid (oldcell G16.out Q0_15.out)
  have Q1_16 : Hid (w16.cell? ⟨w3.heap.size, 1, none⟩ = some (.slice ZA1 M.length Zc1)) := Lib.hid (oldcell G16.out Q1_15.out)
  have S0_16 : Hid (w16.cell? ⟨w6.heap.size, 0, none⟩ = some (.slice YA0 D.length Yc0)) := Lib.hid (oldcell G16.out S0_15.out)
  have S1_16 : Hid (w16.cell? ⟨w6.heap.size, 1, none⟩ = some (.slice YA1 M.length Yc1)) := Lib.hid (oldcell G16.out S1_15.out)
  have OY0_16 : Hid (OI w16 w5.heap.size (.slice YA0 D.length Yc0) (marks 1 D.length)) := Lib.hid (OY0_15.out.bel G16.out)
  have OY1_16 : Hid (OI w16 w5.heap.size (.slice YA1 M.length Yc1) (marks (1 + D.length) M.length)) := Lib.hid (OY1_15.out.bel G16.out)
  have OE_16 : Hid (BRowH w16 w14.heap.size w15.heap.size (.slice EA xs0_0.length xs0_0.length) xs0_0) := Lib.hid (OE_15.out.keep (by have s0 := SZ0.out; have s1 := SZ1.out; have s2 := SZ2.out; have s3 := SZ3.out; have s4 := SZ4.out; have s5 := SZ5.out; have s6 := SZ6.out; have s7 := SZ7.out; have s8 := SZ8.out; have s9 := SZ9.out; have s10 := SZ10.out; have s11 := SZ11.out; have s12 := SZ12.out; have s13 := SZ13.out; have s14 := SZ14.out; have s15 := SZ15.out; omega) G16.out)
  have HB16 : Hid (Below w.heap.size w w16) := Lib.hid (HB15.out.trans (G16.out.mono HB15.out.size))
  have OC0_16 : Hid (OI w16 w15.heap.size (.slice CA0 D.length Cc0) D) := Lib.hid oa; clear oa
  have OC1_16 : Hid (OI w16 w15.heap.size (.slice CA1 M.length Cc1) M) := Lib.hid ob; clear ob
  have XC := Lib.hid hap; clear hap
  have IC0 := Lib.hid OC0_16.out.wi; have IC1 := Lib.hid OC1_16.out.wi
  have G17 : Hid (Below w16.heap.size w16 (w16.alloc (.cells #[.slice CA0 D.length Cc0, .slice CA1 M.length Cc1] 43))) := Lib.hid ((Below.refl _ _).alloc (Nat.le_refl _) _)
  have SZ17 : Hid (w16.heap.size + 1 ≤ (w16.alloc (.cells #[.slice CA0 D.length Cc0, .slice CA1 M.length Cc1] 43)).heap.size) := Lib.hid (by simp)
  have OZ0_17 : Hid (OI (w16.alloc (.cells #[.slice CA0 D.length Cc0, .slice CA1 M.length Cc1] 43)) w2.heap.size (.slice ZA0 D.length Zc0) D) := Lib.hid (OZ0_16.out.bel G17.out)
  have OZ1_17 : Hid (OI (w16.alloc (.cells #[.slice CA0 D.length Cc0, .slice CA1 M.length Cc1] 43)) w2.heap.size (.slice ZA1 M.length Zc1) M) := Lib.hid (OZ1_16.out.bel G17.out)
  have Q0_17 : Hid ((w16.alloc (.cells #[.slice CA0 D.length Cc0, .slice CA1 M.length Cc1] 43)).cell? ⟨w3.heap.size, 0, none⟩ = some (.slice ZA0 D.length Zc0)) := Lib.hid (oldcell G17.out Q0_16.out)
  have Q1_17 : Hid ((w16.alloc (.cells #[.slice CA0 D.length Cc0, .slice CA1 M.length Cc1] 43)).cell? ⟨w3.heap.size, 1, none⟩ = some (.slice ZA1 M.length Zc1)) := Lib.hid (oldcell G17.out Q1_16.out)
  have S0_17 : Hid ((w16.alloc (.cells #[.slice CA0 D.length Cc0, .slice CA1 M.length Cc1] 43)).cell? ⟨w6.heap.size, 0, none⟩ = some (.slice YA0 D.length Yc0)) := Lib.hid (oldcell G17.out S0_16.out)
  have S1_17 : Hid ((w16.alloc (.cells #[.slice CA0 D.length Cc0, .slice CA1 M.length Cc1] 43)).cell? ⟨w6.heap.size, 1, none⟩ = some (.slice YA1 M.length Yc1)) := Lib.hid (oldcell G17.out S1_16.out)
  have OY0_17 : Hid (OI (w16.alloc (.cells #[.slice CA0 D.length Cc0, .slice CA1 M.length Cc1] 43)) w5.heap.size (.slice YA0 D.length Yc0) (marks 1 D.length)) := Lib.hid (OY0_16.out.bel G17.out)
  have OY1_17 : Hid (OI (w16.alloc (.cells #[.slice CA0 D.length Cc0, .slice CA1 M.length Cc1] 43)) w5.heap.size (.slice YA1 M.length Yc1) (marks (1 + D.length) M.length)) := Lib.hid (OY1_16.out.bel G17.out)
  have OC0_17 : Hid (OI (w16.alloc (.cells #[.slice CA0 D.length Cc0, .slice CA1 M.length Cc1] 43)) w15.heap.size (.slice CA0 D.length Cc0) D) := Lib.hid (OC0_16.out.bel G17.out)
  have OC1_17 : Hid (OI (w16.alloc (.cells #[.slice CA0 D.length Cc0, .slice CA1 M.length Cc1] 43)) w15.heap.size (.slice CA1 M.length Cc1) M) := Lib.hid (OC1_16.out.bel G17.out)
  have HB17 : Hid (Below w.heap.size w (w16.alloc (.cells #[.slice CA0 D.length Cc0, .slice CA1 M.length Cc1] 43))) := Lib.hid (HB16.out.trans (G17.out.mono HB16.out.size))
  have J0_17 : Hid ((w16.alloc (.cells #[.slice CA0 D.length Cc0, .slice CA1 M.length Cc1] 43)).cell? ⟨w16.heap.size, 0, none⟩ = some (.slice CA0 D.length Cc0)) := Lib.hid (by rw [cell_of_row _ _ _ _ _ _ (heap_alloc_new w16 _)]; rfl)
  have J1_17 : Hid ((w16.alloc (.cells #[.slice CA0 D.length Cc0, .slice CA1 M.length Cc1] 43)).cell? ⟨w16.heap.size, 1, none⟩ = some (.slice CA1 M.length Cc1)) := Lib.hid (by rw [cell_of_row _ _ _ _ _ _ (heap_alloc_new w16 _)]; rfl)
  have qQ0 := Q0_17.out
  have qQ1 := Q1_17.out
  have qS0 := S0_17.out
  have qS1 := S1_17.out
  have qJ0 := J0_17.out
  have qJ1 := J1_17.out
  go_wp2_with fail
  clear qQ0 qQ1 qS0 qS1 qJ0 qJ1
  generalize (w16.alloc (.cells #[.slice CA0 D.length Cc0, .slice CA1 M.length Cc1] 43)) = w17 at *
  refine (eqBox_any (OC0_17.out.ri ID.out) (OC1_17.out.ri IM.out) (OZ0_17.out.ri ID.out) (OZ1_17.out.ri IM.out) (Nat.le_refl _)).mono ?_
  rintro e w18 ⟨rfl, g⟩
  have G18 := Lib.hid g; have SZ18 : Hid (w17.heap.size ≤ w18.heap.size) := Lib.hid g.size; clear g
  have OZ0_18 : Hid (OI w18 w2.heap.size (.slice ZA0 D.length Zc0) D) := Lib.hid (OZ0_17.out.bel G18.out)
  have OZ1_18 : Hid (OI w18 w2.heap.size (.slice ZA1 M.length Zc1) M) := Lib.hid (OZ1_17.out.bel G18.out)
  have Q0_18 : Hid (w18.cell? ⟨w3.heap.size, 0, none⟩ = some (.slice ZA0 D.length Zc0)) := Lib.hid (oldcell G18.out Q0_17.out)
  have Q1_18 : Hid (w18.cell? ⟨w3.heap.size, 1, none⟩ = some (.slice ZA1 M.length Zc1)) := Lib.hid (oldcell G18.out Q1_17.out)
  have S0_18 : Hid (w18.cell? ⟨w6.heap.size, 0, none⟩ = some (.slice YA0 D.length Yc0)) := Lib.hid (oldcell G18.out S0_17.out)
  have S1_18 : Hid (w18.cell? ⟨w6.heap.size, 1, none⟩ = some (.slice YA1 M.length Yc1)) := Lib.hid (oldcell G18.out S1_17.out)
  have OY0_18 : Hid (OI w18 w5.heap.size (.slice YA0 D.length Yc0) (marks 1 D.length)) := Lib.hid (OY0_17.out.bel G18.out)
  have OY1_18 : Hid (OI w18 w5.heap.size (.slice YA1 M.length Yc1) (marks (1 + D.length) M.length)) := Lib.hid (OY1_17.out.bel G18.out)
  have OC0_18 : Hid (OI w18 w15.heap.size (.slice CA0 D.length Cc0) D) := Lib.hid (OC0_17.out.bel G18.out)
  have OC1_18 : Hid (OI w18 w15.heap.size (.slice CA1 M.length Cc1) M) := Lib.hid (OC1_17.out.bel G18.out)
  have J0_18 : Hid (w18.cell? ⟨w16.heap.size, 0, none⟩ = some (.slice CA0 D.length Cc0)) := Lib.hid (oldcell G18.out J0_17.out)
  have J1_18 : Hid (w18.cell? ⟨w16.heap.size, 1, none⟩ = some (.slice CA1 M.length Cc1)) := Lib.hid (oldcell G18.out J1_17.out)
  have HB18 : Hid (Below w.heap.size w w18) := Lib.hid (HB17.out.trans (G18.out.mono HB17.out.size))
  have qQ0 := Q0_18.out
  have qQ1 := Q1_18.out
  have qS0 := S0_18.out
  have qS1 := S1_18.out
  have qJ0 := J0_18.out
  have qJ1 := J1_18.out
  go_wp2_with fail
  clear qQ0 qQ1 qS0 qS1 qJ0 qJ1
  refine (heldBox_any 1 OY0_18.out OY1_18.out (by have h1 := LD.out; have h2 := LM.out; omega)).mono ?_
  rintro e w19 ⟨rfl, g⟩
  have G19 := Lib.hid g; have SZ19 : Hid (w18.heap.size ≤ w19.heap.size) := Lib.hid g.size; clear g
  have OZ0_19 : Hid (OI w19 w2.heap.size (.slice ZA0 D.length Zc0) D) := Lib.hid (OZ0_18.out.bel G19.out)
  have OZ1_19 : Hid (OI w19 w2.heap.size (.slice ZA1 M.length Zc1) M) := Lib.hid (OZ1_18.out.bel G19.out)
  have Q0_19 : Hid (w19.cell? ⟨w3.heap.size, 0, none⟩ = some (.slice ZA0 D.length Zc0)) := Lib.hid (oldcell G19.out Q0_18.out)
  have Q1_19 : Hid (w19.cell? ⟨w3.heap.size, 1, none⟩ = some (.slice ZA1 M.length Zc1)) := Lib.hid (oldcell G19.out Q1_18.out)
  have S0_19 : Hid (w19.cell? ⟨w6.heap.size, 0, none⟩ = some (.slice YA0 D.length Yc0)) := Lib.hid (oldcell G19.out S0_18.out)
  have S1_19 : Hid (w19.cell? ⟨w6.heap.size, 1, none⟩ = some (.slice YA1 M.length Yc1)) := Lib.hid (oldcell G19.out S1_18.out)
  have OY0_19 : Hid (OI w19 w5.heap.size (.slice YA0 D.length Yc0) (marks 1 D.length)) := Lib.hid (OY0_18.out.bel G19.out)
  have OY1_19 : Hid (OI w19 w5.heap.size (.slice YA1 M.length Yc1) (marks (1 + D.length) M.length)) := Lib.hid (OY1_18.out.bel G19.out)
  have OC0_19 : Hid (OI w19 w15.heap.size (.slice CA0 D.length Cc0) D) := Lib.hid (OC0_18.out.bel G19.out)
  have OC1_19 : Hid (OI w19 w15.heap.size (.slice CA1 M.length Cc1) M) := Lib.hid (OC1_18.out.bel G19.out)
  have J0_19 : Hid (w19.cell? ⟨w16.heap.size, 0, none⟩ = some (.slice CA0 D.length Cc0)) := Lib.hid (oldcell G19.out J0_18.out)
  have J1_19 : Hid (w19.cell? ⟨w16.heap.size, 1, none⟩ = some (.slice CA1 M.length Cc1)) := Lib.hid (oldcell G19.out J1_18.out)
  have HB19 : Hid (Below w.heap.size w w19) := Lib.hid (HB18.out.trans (G19.out.mono HB18.out.size))
  have qQ0 := Q0_19.out
  have qQ1 := Q1_19.out
  have qS0 := S0_19.out
  have qS1 := S1_19.out
  have qJ0 := J0_19.out
  have qJ1 := J1_19.out
  go_wp2_with fail
  clear qQ0 qQ1 qS0 qS1 qJ0 qJ1
  go_ret
  exact ⟨rfl, HB19.out⟩
theorem own : ownKnob Try.prog.godebug = none := by kernel_rfl
theorem laidOut : laidOutB Try.prog = true := by kernel_rfl
set_option maxRecDepth 100000 in
theorem lifted (os : Os) (started : os.Started) (H : Type) (enc : TypeId × Value → H) :
    ReturnsInHanded {} Try.checked os 5 .any (Rows.fnExactBoundsOfSpec.pre6 enc Try.prog Try.f5 Rows.fnExactBoundsOfRow.domain false) (Rows.fnExactBoundsOfSpec.post enc Try.prog Try.f5 false true false false) := by
  refine returnsInHanded_of_change (C := Try.checked) own started (by kernel_rfl) Try.func5
    (ChangeSpec.witness6 (enc := enc) (C := Try.checked) false ⟨#[], #[.slice none 0 0], []⟩ 8 (by kernel_rfl) (by kernel_rfl) (by kernel_rfl) (by kernel_rfl)) ?_
  intro W base args ds gs before hval0 hW hcnd _
  have hval : ∀ (j : Nat) t v, Try.f5.params[j]? = some t → args[j]? = some v → Value.okWide Try.prog W .any base t v := hval0
  have hW' := hW
  obtain ⟨p, q, hA0, hV, rfl, hfz, hnd⟩ := hW
  have hA : DataW.TrodAll enc Try.prog W 0 (fun _ => true) true Try.f5.params.toList args.toList ds p := hA0
  rw [Try.params5] at hA hval
  obtain ⟨v0, vs0, d0, ds0, p0, q0, hargs, rfl, rfl, h0, r0⟩ := trodAll_cons hA
  obtain ⟨rfl, rfl, rfl⟩ := trodAll_nil r0
  obtain rfl : args = #[v0] := by cases args; simp_all
  obtain ⟨rfl, rfl⟩ := trodVars_none hV
  have k0 := h0
  have lt0 : ∀ x ∈ p0, x.block < W.heap.size := by obtain ⟨m, hm⟩ := k0; exact DataW.trod_lt m _ _ _ hm
  obtain ⟨xs0_0, g0_0⟩ := open_boxes (hval 0 40 v0 rfl rfl) h0
  clear hA0 hval0
  refine (walk W _ _ g0_0).mono fun e W' ⟨he, bel⟩ => ?_
  subst he
  exact ⟨_, rfl, _, _, _, [], _, [], hW', (trodAll_cons_mk (shut_bool Try.underlying4 _) trodAll_mk0), (trodAll_cons_mk (Below.trod laidOut (by kernel_rfl) (of_decide_eq_true (by kernel_rfl)) k0 bel lt0) trodAll_mk0), rfl, bel.frame _, fun h => by cases h⟩
theorem over : Rows.fnExactBoundsOfRow.holds Try.pinned (OpenSpec.ofChange Rows.fnExactBoundsOfSpec) :=
  OpenClaim.holds_of_wide 5 Try.f5 rfl rfl rfl rfl rfl rfl rfl ⟨rfl, rfl, rfl, rfl, rfl⟩ rfl rfl rfl rfl rfl (by kernel_rfl) Try.func5 (by kernel_rfl)
    (of_decide_eq_true (by kernel_rfl)) (by unfold Func.isWrapper; rw [if_neg (of_decide_eq_false (by kernel_rfl))]; exact ⟨rfl, rfl⟩)
    (fun os started H enc _ => lifted os started H enc)
theorem proved : Rows.FnExactBoundsOfSaid := over
end Go.Proofs.Ytbghekgghiamcaa.fnExactBoundsOf
