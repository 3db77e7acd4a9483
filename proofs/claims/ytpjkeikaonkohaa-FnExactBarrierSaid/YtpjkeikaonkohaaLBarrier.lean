/- The statement of the law FnExactBarrier: whatever the input, the program's function answers as the model's, and the input reads as it did. Its conditions are the given statement's own; nothing is added. -/
import Derived.Test.YtpjkeikaonkohaaJf
import Derived.Test.YtpjkeikaonkohaaDkQ
import Derived.Test.YtpjkeikaonkohaaBrI
import Derived.Test.YtpjkeikaonkohaaDsk2
import Derived.Test.YtpjkeikaonkohaaAcc
import Derived.Test.YtpjkeikaonkohaaMrU
import Derived.Test.YtpjkeikaonkohaaFrmD
import Derived.ProofKit
import Derived.OpenShut
import Derived.ShutString
import Derived.ChangeOld
import Derived.Below
import Derived.Deep.DeepFit
import Derived.Deep.WholeRow
import Derived.Deep.RegionHeld3
namespace Go.Proofs.Ytpjkeikaonkohaa.fnExactBarrier
open Go.ChangeShapes Go.WideShapes Go.ChangeAt Go.RowKit
open Go.ChangeMaps (open_string shut_string)
set_option linter.unusedVariables false
theorem ans_sl {ss : List ByteArray} {ps : List Pt} {fz : Int} {off : Bool} {c : Int} {w : World} {e : Ending} {w' : World} (h : AnsDC ss ps fz off c w e w') : ∃ A1 A2 c1 c2, e = .returned (.tuple #[.agg #[.slice A1 ss.length c1, .slice A2 ps.length c2, .int .i64 fz, .bool off], .int .i64 c]) ∧
    OT w' w.heap.size (.slice A1 ss.length c1) ss ∧ OU w' w.heap.size (.slice A2 ps.length c2) ps ∧ Apart (.slice A1 ss.length c1) (.slice A2 ps.length c2) ∧ Below w.heap.size w w' := by
  obtain ⟨v1, v2, rfl, ⟨h1, h2, h3⟩, g⟩ := h
  have e1 : ∃ A cap, v1 = .slice A ss.length cap := by rcases OT.sl h1 with ⟨rfl, rfl⟩ | ⟨x, cap, rfl, _⟩ <;> exact ⟨_, _, rfl⟩
  have e2 : ∃ A cap, v2 = .slice A ps.length cap := by rcases OU.sl h2 with ⟨rfl, rfl⟩ | ⟨x, cap, rfl, _⟩ <;> exact ⟨_, _, rfl⟩
  obtain ⟨A1, c1, rfl⟩ := e1
  obtain ⟨A2, c2, rfl⟩ := e2
  exact ⟨A1, A2, c1, c2, rfl, h1, h2, h3, g⟩
set_option maxHeartbeats 8000000 in
set_option maxRecDepth 100000 in
theorem walk (w : World) (v0_0 : Value) (xs0_0 : List ByteArray) (v0_1 : Value) (xs0_1 : List Pt) (n0_2 : Int) (n0_3 : Bool)  (h0_0 : RiT w.heap.size w v0_0 xs0_0) (h0_1 : RiU w.heap.size w v0_1 xs0_1) (h0_2 : InI n0_2)  :
    Calls Try.prog 9 #[.agg #[v0_0, v0_1, .int .i64 n0_2, .bool n0_3]] w (GivesB (.bool true) w) := by
  have S0 := Lib.hid (fun (W : World) (X1 X2 : Option Addr) (g1 : RiT W.heap.size W (.slice X1 xs0_0.length xs0_0.length) xs0_0) (g2 : RiU W.heap.size W (.slice X2 xs0_1.length xs0_1.length) xs0_1) => (specBarrier_any g1 g2  (fz := n0_2) (off := n0_3)).mono fun e w' h => ans_sl h)
  have P0 := Lib.hid (fun (W : World) (X1 X2 : Option Addr) (g1 : RiT W.heap.size W (.slice X1 xs0_0.length xs0_0.length) xs0_0) (g2 : RiU W.heap.size W (.slice X2 xs0_1.length xs0_1.length) xs0_1) => (implBarrier_any g1 g2  (fz := n0_2) (off := n0_3)).mono fun e w' h => ans_sl h)
  have IDa : Hid (∀ x ∈ xs0_0, x.size ≤ maxLen) := Lib.hid h0_0.inT
  have IMa : Hid (∀ p ∈ xs0_1, InI p.1 ∧ p.2.size ≤ maxLen) := Lib.hid h0_1.wf
  have SB : Hid ((∀ x ∈ (baS xs0_0 xs0_1 n0_2 n0_3), x.size ≤ maxLen) ∧ (∀ p ∈ (baP xs0_0 xs0_1 n0_2 n0_3), InI p.1 ∧ p.2.size ≤ maxLen) ∧ ((baS xs0_0 xs0_1 n0_2 n0_3)).length ≤ xs0_0.length + 1 ∧ ((baP xs0_0 xs0_1 n0_2 n0_3)).length ≤ xs0_1.length + 1) := Lib.hid (ba_ok n0_2 n0_3 IDa.out IMa.out)
  have ID := Lib.hid SB.out.1
  have IM := Lib.hid SB.out.2.1
  have LE := Lib.hid SB.out.2.2
  clear SB
  generalize (baS xs0_0 xs0_1 n0_2 n0_3) = D at *
  generalize (baP xs0_0 xs0_1 n0_2 n0_3) = M at *
  generalize (baF xs0_0 xs0_1 n0_2 n0_3) = fz at *
  generalize (baO xs0_0 xs0_1 n0_2 n0_3) = fo at *
  generalize (baC xs0_0 xs0_1 n0_2 n0_3) = co at *
  have eqc : (co == co) = true := by simp
  have Ha := Lib.hid h0_0; have Hb := Lib.hid h0_1
  obtain ⟨A0, c0, rfl, -, -, -⟩ := h0_0
  obtain ⟨A1, c1, rfl, -, -, -⟩ := h0_1
  have HB0 : Hid (Below w.heap.size w (w.alloc (.cells #[.slice A0 xs0_0.length c0, .slice A1 xs0_1.length c1, .int .i64 n0_2, .bool n0_3] 25))) := Lib.hid ((Below.refl _ w).alloc (Nat.le_refl _) _)
  have SZ0 : Hid (w.heap.size + 1 ≤ (w.alloc (.cells #[.slice A0 xs0_0.length c0, .slice A1 xs0_1.length c1, .int .i64 n0_2, .bool n0_3] 25)).heap.size) := Lib.hid (by simp)
  have F0_0 : Hid ((w.alloc (.cells #[.slice A0 xs0_0.length c0, .slice A1 xs0_1.length c1, .int .i64 n0_2, .bool n0_3] 25)).cell? ⟨w.heap.size, 0, none⟩ = some (.slice A0 xs0_0.length c0)) := Lib.hid (by rw [cell_of_row _ _ _ _ _ _ (heap_alloc_new w _)]; rfl)
  have F1_0 : Hid ((w.alloc (.cells #[.slice A0 xs0_0.length c0, .slice A1 xs0_1.length c1, .int .i64 n0_2, .bool n0_3] 25)).cell? ⟨w.heap.size, 1, none⟩ = some (.slice A1 xs0_1.length c1)) := Lib.hid (by rw [cell_of_row _ _ _ _ _ _ (heap_alloc_new w _)]; rfl)
  have F2_0 : Hid ((w.alloc (.cells #[.slice A0 xs0_0.length c0, .slice A1 xs0_1.length c1, .int .i64 n0_2, .bool n0_3] 25)).cell? ⟨w.heap.size, 2, none⟩ = some (.int .i64 n0_2)) := Lib.hid (by rw [cell_of_row _ _ _ _ _ _ (heap_alloc_new w _)]; rfl)
  have F3_0 : Hid ((w.alloc (.cells #[.slice A0 xs0_0.length c0, .slice A1 xs0_1.length c1, .int .i64 n0_2, .bool n0_3] 25)).cell? ⟨w.heap.size, 3, none⟩ = some (.bool n0_3)) := Lib.hid (by rw [cell_of_row _ _ _ _ _ _ (heap_alloc_new w _)]; rfl)
  go_enter Try.func9, Try.ntmps9
  go_wp2_with fail
  generalize (w.alloc (.cells #[.slice A0 xs0_0.length c0, .slice A1 xs0_1.length c1, .int .i64 n0_2, .bool n0_3] 25)) = w0 at *
  refine (szDisk_any (Ha.out.at (Nat.le_refl _) HB0.out) (Hb.out.at (Nat.le_refl _) HB0.out) (Nat.le_refl _) (1048576) (by omega) (by omega)).mono ?_
  rintro e w1 ⟨l0, rfl, hl0, hL0, hp0, g⟩
  have Pz := Lib.hid hp0; have G1 := Lib.hid g; have SZ1 : Hid (w0.heap.size ≤ w1.heap.size) := Lib.hid g.size; clear hp0 g
  have F0_1 : Hid (w1.cell? ⟨w.heap.size, 0, none⟩ = some (.slice A0 xs0_0.length c0)) := Lib.hid (oldcell G1.out F0_0.out)
  have F1_1 : Hid (w1.cell? ⟨w.heap.size, 1, none⟩ = some (.slice A1 xs0_1.length c1)) := Lib.hid (oldcell G1.out F1_0.out)
  have F2_1 : Hid (w1.cell? ⟨w.heap.size, 2, none⟩ = some (.int .i64 n0_2)) := Lib.hid (oldcell G1.out F2_0.out)
  have F3_1 : Hid (w1.cell? ⟨w.heap.size, 3, none⟩ = some (.bool n0_3)) := Lib.hid (oldcell G1.out F3_0.out)
  have HB1 : Hid (Below w.heap.size w w1) := Lib.hid (HB0.out.trans (G1.out.mono HB0.out.size))
  by_cases neg0 : l0 < 0
  · skip
    have qF0 := F0_1.out
    have qF1 := F1_1.out
    have qF2 := F2_1.out
    have qF3 := F3_1.out
    go_wp2_with fail
    go_ret
    exact ⟨rfl, HB1.out⟩
  have SM := Lib.hid (Pz.out (by omega))
  have LD : Hid (D.length ≤ 1048577) := Lib.hid (by have := LE.out; have := SM.out.1.1; omega)
  have LM : Hid (M.length ≤ 1048577) := Lib.hid (by have := LE.out; have := SM.out.2.1; omega)
  have qF0 := F0_1.out
  have qF1 := F1_1.out
  have qF2 := F2_1.out
  have qF3 := F3_1.out
  go_wp2_with fail
  clear qF0 qF1 qF2 qF3
  refine (toDisk_any (Ha.out.at (Nat.le_refl _) HB1.out) (Hb.out.at (Nat.le_refl _) HB1.out) (Nat.le_refl _) SM.out.1 SM.out.2).mono ?_
  rintro e w2 ⟨TA0, TA1, rfl, oa, ob, hap, g⟩
  have G2 := Lib.hid g; have SZ2 : Hid (w1.heap.size ≤ w2.heap.size) := Lib.hid g.size; clear g
  have F0_2 : Hid (w2.cell? ⟨w.heap.size, 0, none⟩ = some (.slice A0 xs0_0.length c0)) := Lib.hid (oldcell G2.out F0_1.out)
  have F1_2 : Hid (w2.cell? ⟨w.heap.size, 1, none⟩ = some (.slice A1 xs0_1.length c1)) := Lib.hid (oldcell G2.out F1_1.out)
  have F2_2 : Hid (w2.cell? ⟨w.heap.size, 2, none⟩ = some (.int .i64 n0_2)) := Lib.hid (oldcell G2.out F2_1.out)
  have F3_2 : Hid (w2.cell? ⟨w.heap.size, 3, none⟩ = some (.bool n0_3)) := Lib.hid (oldcell G2.out F3_1.out)
  have HB2 : Hid (Below w.heap.size w w2) := Lib.hid (HB1.out.trans (G2.out.mono HB1.out.size))
  have OT0_2 : Hid (OT w2 w1.heap.size (.slice TA0 xs0_0.length xs0_0.length) xs0_0) := Lib.hid oa; clear oa
  have OT1_2 : Hid (OU w2 w1.heap.size (.slice TA1 xs0_1.length xs0_1.length) xs0_1) := Lib.hid ob; clear ob
  have XT := Lib.hid hap; clear hap
  have IT0 := Lib.hid (own_wi OT0_2.out); have IT1 := Lib.hid (own_wi OT1_2.out)
  have qF0 := F0_2.out
  have qF1 := F1_2.out
  have qF2 := F2_2.out
  have qF3 := F3_2.out
  go_wp2_with fail
  clear qF0 qF1 qF2 qF3
  refine (S0.out w2 _ _ (OT0_2.out.rit IDa.out) (OT1_2.out.riu IMa.out)).mono ?_
  rintro e w3 ⟨ZA0, ZA1, Zc0, Zc1, rfl, oa, ob, hap, g⟩
  have G3 := Lib.hid g; have SZ3 : Hid (w2.heap.size ≤ w3.heap.size) := Lib.hid g.size; clear g
  have F0_3 : Hid (w3.cell? ⟨w.heap.size, 0, none⟩ = some (.slice A0 xs0_0.length c0)) := Lib.hid (oldcell G3.out F0_2.out)
  have F1_3 : Hid (w3.cell? ⟨w.heap.size, 1, none⟩ = some (.slice A1 xs0_1.length c1)) := Lib.hid (oldcell G3.out F1_2.out)
  have F2_3 : Hid (w3.cell? ⟨w.heap.size, 2, none⟩ = some (.int .i64 n0_2)) := Lib.hid (oldcell G3.out F2_2.out)
  have F3_3 : Hid (w3.cell? ⟨w.heap.size, 3, none⟩ = some (.bool n0_3)) := Lib.hid (oldcell G3.out F3_2.out)
  have OT0_3 : Hid (OT w3 w1.heap.size (.slice TA0 xs0_0.length xs0_0.length) xs0_0) := Lib.hid (own_bel OT0_2.out G3.out)
  have OT1_3 : Hid (OU w3 w1.heap.size (.slice TA1 xs0_1.length xs0_1.length) xs0_1) := Lib.hid (own_bel OT1_2.out G3.out)
  have HB3 : Hid (Below w.heap.size w w3) := Lib.hid (HB2.out.trans (G3.out.mono HB2.out.size))
  have OZ0_3 : Hid (OT w3 w2.heap.size (.slice ZA0 D.length Zc0) D) := Lib.hid oa; clear oa
  have OZ1_3 : Hid (OU w3 w2.heap.size (.slice ZA1 M.length Zc1) M) := Lib.hid ob; clear ob
  have XZ := Lib.hid hap; clear hap
  have IZ0 := Lib.hid (own_wi OZ0_3.out); have IZ1 := Lib.hid (own_wi OZ1_3.out)
  have G4 : Hid (Below w3.heap.size w3 (w3.alloc (.cells #[.slice ZA0 D.length Zc0, .slice ZA1 M.length Zc1, .int .i64 fz, .bool fo] 30))) := Lib.hid ((Below.refl _ _).alloc (Nat.le_refl _) _)
  have SZ4 : Hid (w3.heap.size + 1 ≤ (w3.alloc (.cells #[.slice ZA0 D.length Zc0, .slice ZA1 M.length Zc1, .int .i64 fz, .bool fo] 30)).heap.size) := Lib.hid (by simp)
  have F0_4 : Hid ((w3.alloc (.cells #[.slice ZA0 D.length Zc0, .slice ZA1 M.length Zc1, .int .i64 fz, .bool fo] 30)).cell? ⟨w.heap.size, 0, none⟩ = some (.slice A0 xs0_0.length c0)) := Lib.hid (oldcell G4.out F0_3.out)
  have F1_4 : Hid ((w3.alloc (.cells #[.slice ZA0 D.length Zc0, .slice ZA1 M.length Zc1, .int .i64 fz, .bool fo] 30)).cell? ⟨w.heap.size, 1, none⟩ = some (.slice A1 xs0_1.length c1)) := Lib.hid (oldcell G4.out F1_3.out)
  have F2_4 : Hid ((w3.alloc (.cells #[.slice ZA0 D.length Zc0, .slice ZA1 M.length Zc1, .int .i64 fz, .bool fo] 30)).cell? ⟨w.heap.size, 2, none⟩ = some (.int .i64 n0_2)) := Lib.hid (oldcell G4.out F2_3.out)
  have F3_4 : Hid ((w3.alloc (.cells #[.slice ZA0 D.length Zc0, .slice ZA1 M.length Zc1, .int .i64 fz, .bool fo] 30)).cell? ⟨w.heap.size, 3, none⟩ = some (.bool n0_3)) := Lib.hid (oldcell G4.out F3_3.out)
  have OZ0_4 : Hid (OT (w3.alloc (.cells #[.slice ZA0 D.length Zc0, .slice ZA1 M.length Zc1, .int .i64 fz, .bool fo] 30)) w2.heap.size (.slice ZA0 D.length Zc0) D) := Lib.hid (own_bel OZ0_3.out G4.out)
  have OZ1_4 : Hid (OU (w3.alloc (.cells #[.slice ZA0 D.length Zc0, .slice ZA1 M.length Zc1, .int .i64 fz, .bool fo] 30)) w2.heap.size (.slice ZA1 M.length Zc1) M) := Lib.hid (own_bel OZ1_3.out G4.out)
  have HB4 : Hid (Below w.heap.size w (w3.alloc (.cells #[.slice ZA0 D.length Zc0, .slice ZA1 M.length Zc1, .int .i64 fz, .bool fo] 30))) := Lib.hid (HB3.out.trans (G4.out.mono HB3.out.size))
  have Q0_4 : Hid ((w3.alloc (.cells #[.slice ZA0 D.length Zc0, .slice ZA1 M.length Zc1, .int .i64 fz, .bool fo] 30)).cell? ⟨w3.heap.size, 0, none⟩ = some (.slice ZA0 D.length Zc0)) := Lib.hid (by rw [cell_of_row _ _ _ _ _ _ (heap_alloc_new w3 _)]; rfl)
  have Q1_4 : Hid ((w3.alloc (.cells #[.slice ZA0 D.length Zc0, .slice ZA1 M.length Zc1, .int .i64 fz, .bool fo] 30)).cell? ⟨w3.heap.size, 1, none⟩ = some (.slice ZA1 M.length Zc1)) := Lib.hid (by rw [cell_of_row _ _ _ _ _ _ (heap_alloc_new w3 _)]; rfl)
  have Q2_4 : Hid ((w3.alloc (.cells #[.slice ZA0 D.length Zc0, .slice ZA1 M.length Zc1, .int .i64 fz, .bool fo] 30)).cell? ⟨w3.heap.size, 2, none⟩ = some (.int .i64 fz)) := Lib.hid (by rw [cell_of_row _ _ _ _ _ _ (heap_alloc_new w3 _)]; rfl)
  have Q3_4 : Hid ((w3.alloc (.cells #[.slice ZA0 D.length Zc0, .slice ZA1 M.length Zc1, .int .i64 fz, .bool fo] 30)).cell? ⟨w3.heap.size, 3, none⟩ = some (.bool fo)) := Lib.hid (by rw [cell_of_row _ _ _ _ _ _ (heap_alloc_new w3 _)]; rfl)
  have qF0 := F0_4.out
  have qF1 := F1_4.out
  have qF2 := F2_4.out
  have qF3 := F3_4.out
  have qQ0 := Q0_4.out
  have qQ1 := Q1_4.out
  have qQ2 := Q2_4.out
  have qQ3 := Q3_4.out
  go_wp2_with fail
  clear qF0 qF1 qF2 qF3 qQ0 qQ1 qQ2 qQ3
  generalize (w3.alloc (.cells #[.slice ZA0 D.length Zc0, .slice ZA1 M.length Zc1, .int .i64 fz, .bool fo] 30)) = w4 at *
  refine (toDisk_any (Ha.out.at (Nat.le_refl _) HB4.out) (Hb.out.at (Nat.le_refl _) HB4.out) (Nat.le_refl _) SM.out.1 SM.out.2).mono ?_
  rintro e w5 ⟨VA0, VA1, rfl, oa, ob, hap, g⟩
  have G5 := Lib.hid g; have SZ5 : Hid (w4.heap.size ≤ w5.heap.size) := Lib.hid g.size; clear g
  have F0_5 : Hid (w5.cell? ⟨w.heap.size, 0, none⟩ = some (.slice A0 xs0_0.length c0)) := Lib.hid (oldcell G5.out F0_4.out)
  have F1_5 : Hid (w5.cell? ⟨w.heap.size, 1, none⟩ = some (.slice A1 xs0_1.length c1)) := Lib.hid (oldcell G5.out F1_4.out)
  have F2_5 : Hid (w5.cell? ⟨w.heap.size, 2, none⟩ = some (.int .i64 n0_2)) := Lib.hid (oldcell G5.out F2_4.out)
  have F3_5 : Hid (w5.cell? ⟨w.heap.size, 3, none⟩ = some (.bool n0_3)) := Lib.hid (oldcell G5.out F3_4.out)
  have OZ0_5 : Hid (OT w5 w2.heap.size (.slice ZA0 D.length Zc0) D) := Lib.hid (own_bel OZ0_4.out G5.out)
  have OZ1_5 : Hid (OU w5 w2.heap.size (.slice ZA1 M.length Zc1) M) := Lib.hid (own_bel OZ1_4.out G5.out)
  have Q0_5 : Hid (w5.cell? ⟨w3.heap.size, 0, none⟩ = some (.slice ZA0 D.length Zc0)) := Lib.hid (oldcell G5.out Q0_4.out)
  have Q1_5 : Hid (w5.cell? ⟨w3.heap.size, 1, none⟩ = some (.slice ZA1 M.length Zc1)) := Lib.hid (oldcell G5.out Q1_4.out)
  have Q2_5 : Hid (w5.cell? ⟨w3.heap.size, 2, none⟩ = some (.int .i64 fz)) := Lib.hid (oldcell G5.out Q2_4.out)
  have Q3_5 : Hid (w5.cell? ⟨w3.heap.size, 3, none⟩ = some (.bool fo)) := Lib.hid (oldcell G5.out Q3_4.out)
  have HB5 : Hid (Below w.heap.size w w5) := Lib.hid (HB4.out.trans (G5.out.mono HB4.out.size))
  have OV0_5 : Hid (OT w5 w4.heap.size (.slice VA0 xs0_0.length xs0_0.length) xs0_0) := Lib.hid oa; clear oa
  have OV1_5 : Hid (OU w5 w4.heap.size (.slice VA1 xs0_1.length xs0_1.length) xs0_1) := Lib.hid ob; clear ob
  have XV := Lib.hid hap; clear hap
  have IV0 := Lib.hid (own_wi OV0_5.out); have IV1 := Lib.hid (own_wi OV1_5.out)
  have G6 : Hid (Below w5.heap.size w5 (w5.alloc (.cells #[.slice VA0 xs0_0.length xs0_0.length, .slice VA1 xs0_1.length xs0_1.length, .int .i64 n0_2, .bool n0_3] 30))) := Lib.hid ((Below.refl _ _).alloc (Nat.le_refl _) _)
  have SZ6 : Hid (w5.heap.size + 1 ≤ (w5.alloc (.cells #[.slice VA0 xs0_0.length xs0_0.length, .slice VA1 xs0_1.length xs0_1.length, .int .i64 n0_2, .bool n0_3] 30)).heap.size) := Lib.hid (by simp)
  have F0_6 : Hid ((w5.alloc (.cells #[.slice VA0 xs0_0.length xs0_0.length, .slice VA1 xs0_1.length xs0_1.length, .int .i64 n0_2, .bool n0_3] 30)).cell? ⟨w.heap.size, 0, none⟩ = some (.slice A0 xs0_0.length c0)) := Lib.hid (oldcell G6.out F0_5.out)
  have F1_6 : Hid ((w5.alloc (.cells #[.slice VA0 xs0_0.length xs0_0.length, .slice VA1 xs0_1.length xs0_1.length, .int .i64 n0_2, .bool n0_3] 30)).cell? ⟨w.heap.size, 1, none⟩ = some (.slice A1 xs0_1.length c1)) := Lib.hid (oldcell G6.out F1_5.out)
  have F2_6 : Hid ((w5.alloc (.cells #[.slice VA0 xs0_0.length xs0_0.length, .slice VA1 xs0_1.length xs0_1.length, .int .i64 n0_2, .bool n0_3] 30)).cell? ⟨w.heap.size, 2, none⟩ = some (.int .i64 n0_2)) := Lib.hid (oldcell G6.out F2_5.out)
  have F3_6 : Hid ((w5.alloc (.cells #[.slice VA0 xs0_0.length xs0_0.length, .slice VA1 xs0_1.length xs0_1.length, .int .i64 n0_2, .bool n0_3] 30)).cell? ⟨w.heap.size, 3, none⟩ = some (.bool n0_3)) := Lib.hid (oldcell G6.out F3_5.out)
  have OZ0_6 : Hid (OT (w5.alloc (.cells #[.slice VA0 xs0_0.length xs0_0.length, .slice VA1 xs0_1.length xs0_1.length, .int .i64 n0_2, .bool n0_3] 30)) w2.heap.size (.slice ZA0 D.length Zc0) D) := Lib.hid (own_bel OZ0_5.out G6.out)
  have OZ1_6 : Hid (OU (w5.alloc (.cells #[.slice VA0 xs0_0.length xs0_0.length, .slice VA1 xs0_1.length xs0_1.length, .int .i64 n0_2, .bool n0_3] 30)) w2.heap.size (.slice ZA1 M.length Zc1) M) := Lib.hid (own_bel OZ1_5.out G6.out)
  have Q0_6 : Hid ((w5.alloc (.cells #[.slice VA0 xs0_0.length xs0_0.length, .slice VA1 xs0_1.length xs0_1.length, .int .i64 n0_2, .bool n0_3] 30)).cell? ⟨w3.heap.size, 0, none⟩ = some (.slice ZA0 D.length Zc0)) := Lib.hid (oldcell G6.out Q0_5.out)
  have Q1_6 : Hid ((w5.alloc (.cells #[.slice VA0 xs0_0.length xs0_0.length, .slice VA1 xs0_1.length xs0_1.length, .int .i64 n0_2, .bool n0_3] 30)).cell? ⟨w3.heap.size, 1, none⟩ = some (.slice ZA1 M.length Zc1)) := Lib.hid (oldcell G6.out Q1_5.out)
  have Q2_6 : Hid ((w5.alloc (.cells #[.slice VA0 xs0_0.length xs0_0.length, .slice VA1 xs0_1.length xs0_1.length, .int .i64 n0_2, .bool n0_3] 30)).cell? ⟨w3.heap.size, 2, none⟩ = some (.int .i64 fz)) := Lib.hid (oldcell G6.out Q2_5.out)
  have Q3_6 : Hid ((w5.alloc (.cells #[.slice VA0 xs0_0.length xs0_0.length, .slice VA1 xs0_1.length xs0_1.length, .int .i64 n0_2, .bool n0_3] 30)).cell? ⟨w3.heap.size, 3, none⟩ = some (.bool fo)) := Lib.hid (oldcell G6.out Q3_5.out)
  have OV0_6 : Hid (OT (w5.alloc (.cells #[.slice VA0 xs0_0.length xs0_0.length, .slice VA1 xs0_1.length xs0_1.length, .int .i64 n0_2, .bool n0_3] 30)) w4.heap.size (.slice VA0 xs0_0.length xs0_0.length) xs0_0) := Lib.hid (own_bel OV0_5.out G6.out)
  have OV1_6 : Hid (OU (w5.alloc (.cells #[.slice VA0 xs0_0.length xs0_0.length, .slice VA1 xs0_1.length xs0_1.length, .int .i64 n0_2, .bool n0_3] 30)) w4.heap.size (.slice VA1 xs0_1.length xs0_1.length) xs0_1) := Lib.hid (own_bel OV1_5.out G6.out)
  have HB6 : Hid (Below w.heap.size w (w5.alloc (.cells #[.slice VA0 xs0_0.length xs0_0.length, .slice VA1 xs0_1.length xs0_1.length, .int .i64 n0_2, .bool n0_3] 30))) := Lib.hid (HB5.out.trans (G6.out.mono HB5.out.size))
  have K0_6 : Hid ((w5.alloc (.cells #[.slice VA0 xs0_0.length xs0_0.length, .slice VA1 xs0_1.length xs0_1.length, .int .i64 n0_2, .bool n0_3] 30)).cell? ⟨w5.heap.size, 0, none⟩ = some (.slice VA0 xs0_0.length xs0_0.length)) := Lib.hid (by rw [cell_of_row _ _ _ _ _ _ (heap_alloc_new w5 _)]; rfl)
  have K1_6 : Hid ((w5.alloc (.cells #[.slice VA0 xs0_0.length xs0_0.length, .slice VA1 xs0_1.length xs0_1.length, .int .i64 n0_2, .bool n0_3] 30)).cell? ⟨w5.heap.size, 1, none⟩ = some (.slice VA1 xs0_1.length xs0_1.length)) := Lib.hid (by rw [cell_of_row _ _ _ _ _ _ (heap_alloc_new w5 _)]; rfl)
  have K2_6 : Hid ((w5.alloc (.cells #[.slice VA0 xs0_0.length xs0_0.length, .slice VA1 xs0_1.length xs0_1.length, .int .i64 n0_2, .bool n0_3] 30)).cell? ⟨w5.heap.size, 2, none⟩ = some (.int .i64 n0_2)) := Lib.hid (by rw [cell_of_row _ _ _ _ _ _ (heap_alloc_new w5 _)]; rfl)
  have K3_6 : Hid ((w5.alloc (.cells #[.slice VA0 xs0_0.length xs0_0.length, .slice VA1 xs0_1.length xs0_1.length, .int .i64 n0_2, .bool n0_3] 30)).cell? ⟨w5.heap.size, 3, none⟩ = some (.bool n0_3)) := Lib.hid (by rw [cell_of_row _ _ _ _ _ _ (heap_alloc_new w5 _)]; rfl)
  have qF0 := F0_6.out
  have qF1 := F1_6.out
  have qF2 := F2_6.out
  have qF3 := F3_6.out
  have qQ0 := Q0_6.out
  have qQ1 := Q1_6.out
  have qQ2 := Q2_6.out
  have qQ3 := Q3_6.out
  have qK0 := K0_6.out
  have qK1 := K1_6.out
  have qK2 := K2_6.out
  have qK3 := K3_6.out
  go_wp2_with fail
  clear qF0 qF1 qF2 qF3 qQ0 qQ1 qQ2 qQ3 qK0 qK1 qK2 qK3
  generalize (w5.alloc (.cells #[.slice VA0 xs0_0.length xs0_0.length, .slice VA1 xs0_1.length xs0_1.length, .int .i64 n0_2, .bool n0_3] 30)) = w6 at *
  refine (P0.out w6 _ _ (OV0_6.out.rit IDa.out) (OV1_6.out.riu IMa.out)).mono ?_
  rintro e w7 ⟨YA0, YA1, Yc0, Yc1, rfl, oa, ob, hap, g⟩
  have G7 := Lib.hid g; have SZ7 : Hid (w6.heap.size ≤ w7.heap.size) := Lib.hid g.size; clear g
  have F0_7 : Hid (w7.cell? ⟨w.heap.size, 0, none⟩ = some (.slice A0 xs0_0.length c0)) := Lib.hid (oldcell G7.out F0_6.out)
  have F1_7 : Hid (w7.cell? ⟨w.heap.size, 1, none⟩ = some (.slice A1 xs0_1.length c1)) := Lib.hid (oldcell G7.out F1_6.out)
  have F2_7 : Hid (w7.cell? ⟨w.heap.size, 2, none⟩ = some (.int .i64 n0_2)) := Lib.hid (oldcell G7.out F2_6.out)
  have F3_7 : Hid (w7.cell? ⟨w.heap.size, 3, none⟩ = some (.bool n0_3)) := Lib.hid (oldcell G7.out F3_6.out)
  have OZ0_7 : Hid (OT w7 w2.heap.size (.slice ZA0 D.length Zc0) D) := Lib.hid (own_bel OZ0_6.out G7.out)
  have OZ1_7 : Hid (OU w7 w2.heap.size (.slice ZA1 M.length Zc1) M) := Lib.hid (own_bel OZ1_6.out G7.out)
  have Q0_7 : Hid (w7.cell? ⟨w3.heap.size, 0, none⟩ = some (.slice ZA0 D.length Zc0)) := Lib.hid (oldcell G7.out Q0_6.out)
  have Q1_7 : Hid (w7.cell? ⟨w3.heap.size, 1, none⟩ = some (.slice ZA1 M.length Zc1)) := Lib.hid (oldcell G7.out Q1_6.out)
  have Q2_7 : Hid (w7.cell? ⟨w3.heap.size, 2, none⟩ = some (.int .i64 fz)) := Lib.hid (oldcell G7.out Q2_6.out)
  have Q3_7 : Hid (w7.cell? ⟨w3.heap.size, 3, none⟩ = some (.bool fo)) := Lib.hid (oldcell G7.out Q3_6.out)
  have OV0_7 : Hid (OT w7 w4.heap.size (.slice VA0 xs0_0.length xs0_0.length) xs0_0) := Lib.hid (own_bel OV0_6.out G7.out)
  have OV1_7 : Hid (OU w7 w4.heap.size (.slice VA1 xs0_1.length xs0_1.length) xs0_1) := Lib.hid (own_bel OV1_6.out G7.out)
  have K0_7 : Hid (w7.cell? ⟨w5.heap.size, 0, none⟩ = some (.slice VA0 xs0_0.length xs0_0.length)) := Lib.hid (oldcell G7.out K0_6.out)
  have K1_7 : Hid (w7.cell? ⟨w5.heap.size, 1, none⟩ = some (.slice VA1 xs0_1.length xs0_1.length)) := Lib.hid (oldcell G7.out K1_6.out)
  have K2_7 : Hid (w7.cell? ⟨w5.heap.size, 2, none⟩ = some (.int .i64 n0_2)) := Lib.hid (oldcell G7.out K2_6.out)
  have K3_7 : Hid (w7.cell? ⟨w5.heap.size, 3, none⟩ = some (.bool n0_3)) := Lib.hid (oldcell G7.out K3_6.out)
  have HB7 : Hid (Below w.heap.size w w7) := Lib.hid (HB6.out.trans (G7.out.mono HB6.out.size))
  have OY0_7 : Hid (OT w7 w6.heap.size (.slice YA0 D.length Yc0) D) := Lib.hid oa; clear oa
  have OY1_7 : Hid (OU w7 w6.heap.size (.slice YA1 M.length Yc1) M) := Lib.hid ob; clear ob
  have XY := Lib.hid hap; clear hap
  have IY0 := Lib.hid (own_wi OY0_7.out); have IY1 := Lib.hid (own_wi OY1_7.out)
  have G8 : Hid (Below w7.heap.size w7 (w7.alloc (.cells #[.slice YA0 D.length Yc0, .slice YA1 M.length Yc1, .int .i64 fz, .bool fo] 30))) := Lib.hid ((Below.refl _ _).alloc (Nat.le_refl _) _)
  have SZ8 : Hid (w7.heap.size + 1 ≤ (w7.alloc (.cells #[.slice YA0 D.length Yc0, .slice YA1 M.length Yc1, .int .i64 fz, .bool fo] 30)).heap.size) := Lib.hid (by simp)
  have F0_8 : Hid ((w7.alloc (.cells #[.slice YA0 D.length Yc0, .slice YA1 M.length Yc1, .int .i64 fz, .bool fo] 30)).cell? ⟨w.heap.size, 0, none⟩ = some (.slice A0 xs0_0.length c0)) := Lib.hid (oldcell G8.out F0_7.out)
  have F1_8 : Hid ((w7.alloc (.cells #[.slice YA0 D.length Yc0, .slice YA1 M.length Yc1, .int .i64 fz, .bool fo] 30)).cell? ⟨w.heap.size, 1, none⟩ = some (.slice A1 xs0_1.length c1)) := Lib.hid (oldcell G8.out F1_7.out)
  have F2_8 : Hid ((w7.alloc (.cells #[.slice YA0 D.length Yc0, .slice YA1 M.length Yc1, .int .i64 fz, .bool fo] 30)).cell? ⟨w.heap.size, 2, none⟩ = some (.int .i64 n0_2)) := Lib.hid (oldcell G8.out F2_7.out)
  have F3_8 : Hid ((w7.alloc (.cells #[.slice YA0 D.length Yc0, .slice YA1 M.length Yc1, .int .i64 fz, .bool fo] 30)).cell? ⟨w.heap.size, 3, none⟩ = some (.bool n0_3)) := Lib.hid (oldcell G8.out F3_7.out)
  have OZ0_8 : Hid (OT (w7.alloc (.cells #[.slice YA0 D.length Yc0, .slice YA1 M.length Yc1, .int .i64 fz, .bool fo] 30)) w2.heap.size (.slice ZA0 D.length Zc0) D) := Lib.hid (own_bel OZ0_7.out G8.out)
  have OZ1_8 : Hid (OU (w7.alloc (.cells #[.slice YA0 D.length Yc0, .slice YA1 M.length Yc1, .int .i64 fz, .bool fo] 30)) w2.heap.size (.slice ZA1 M.length Zc1) M) := Lib.hid (own_bel OZ1_7.out G8.out)
  have Q0_8 : Hid ((w7.alloc (.cells #[.slice YA0 D.length Yc0, .slice YA1 M.length Yc1, .int .i64 fz, .bool fo] 30)).cell? ⟨w3.heap.size, 0, none⟩ = some (.slice ZA0 D.length Zc0)) := Lib.hid (oldcell G8.out Q0_7.out)
  have Q1_8 : Hid ((w7.alloc (.cells #[.slice YA0 D.length Yc0, .slice YA1 M.length Yc1, .int .i64 fz, .bool fo] 30)).cell? ⟨w3.heap.size, 1, none⟩ = some (.slice ZA1 M.length Zc1)) := Lib.hid (oldcell G8.out Q1_7.out)
  have Q2_8 : Hid ((w7.alloc (.cells #[.slice YA0 D.length Yc0, .slice YA1 M.length Yc1, .int .i64 fz, .bool fo] 30)).cell? ⟨w3.heap.size, 2, none⟩ = some (.int .i64 fz)) := Lib.hid (oldcell G8.out Q2_7.out)
  have Q3_8 : Hid ((w7.alloc (.cells #[.slice YA0 D.length Yc0, .slice YA1 M.length Yc1, .int .i64 fz, .bool fo] 30)).cell? ⟨w3.heap.size, 3, none⟩ = some (.bool fo)) := Lib.hid (oldcell G8.out Q3_7.out)
  have OV0_8 : Hid (OT (w7.alloc (.cells #[.slice YA0 D.length Yc0, .slice YA1 M.length Yc1, .int .i64 fz, .bool fo] 30)) w4.heap.size (.slice VA0 xs0_0.length xs0_0.length) xs0_0) := Lib.hid (own_bel OV0_7.out G8.out)
  have OV1_8 : Hid (OU (w7.alloc (.cells #[.slice YA0 D.length Yc0, .slice YA1 M.length Yc1, .int .i64 fz, .bool fo] 30)) w4.heap.size (.slice VA1 xs0_1.length xs0_1.length) xs0_1) := Lib.hid (own_bel OV1_7.out G8.out)
  have K0_8 : Hid ((w7.alloc (.cells #[.slice YA0 D.length Yc0, .slice YA1 M.length Yc1, .int .i64 fz, .bool fo] 30)).cell? ⟨w5.heap.size, 0, none⟩ = some (.slice VA0 xs0_0.length xs0_0.length)) := Lib.hid (oldcell G8.out K0_7.out)
  have K1_8 : Hid ((w7.alloc (.cells #[.slice YA0 D.length Yc0, .slice YA1 M.length Yc1, .int .i64 fz, .bool fo] 30)).cell? ⟨w5.heap.size, 1, none⟩ = some (.slice VA1 xs0_1.length xs0_1.length)) := Lib.hid (oldcell G8.out K1_7.out)
  have K2_8 : Hid ((w7.alloc (.cells #[.slice YA0 D.length Yc0, .slice YA1 M.length Yc1, .int .i64 fz, .bool fo] 30)).cell? ⟨w5.heap.size, 2, none⟩ = some (.int .i64 n0_2)) := Lib.hid (oldcell G8.out K2_7.out)
  have K3_8 : Hid ((w7.alloc (.cells #[.slice YA0 D.length Yc0, .slice YA1 M.length Yc1, .int .i64 fz, .bool fo] 30)).cell? ⟨w5.heap.size, 3, none⟩ = some (.bool n0_3)) := Lib.hid (oldcell G8.out K3_7.out)
  have OY0_8 : Hid (OT (w7.alloc (.cells #[.slice YA0 D.length Yc0, .slice YA1 M.length Yc1, .int .i64 fz, .bool fo] 30)) w6.heap.size (.slice YA0 D.length Yc0) D) := Lib.hid (own_bel OY0_7.out G8.out)
  have OY1_8 : Hid (OU (w7.alloc (.cells #[.slice YA0 D.length Yc0, .slice YA1 M.length Yc1, .int .i64 fz, .bool fo] 30)) w6.heap.size (.slice YA1 M.length Yc1) M) := Lib.hid (own_bel OY1_7.out G8.out)
  have HB8 : Hid (Below w.heap.size w (w7.alloc (.cells #[.slice YA0 D.length Yc0, .slice YA1 M.length Yc1, .int .i64 fz, .bool fo] 30))) := Lib.hid (HB7.out.trans (G8.out.mono HB7.out.size))
  have S0_8 : Hid ((w7.alloc (.cells #[.slice YA0 D.length Yc0, .slice YA1 M.length Yc1, .int .i64 fz, .bool fo] 30)).cell? ⟨w7.heap.size, 0, none⟩ = some (.slice YA0 D.length Yc0)) := Lib.hid (by rw [cell_of_row _ _ _ _ _ _ (heap_alloc_new w7 _)]; rfl)
  have S1_8 : Hid ((w7.alloc (.cells #[.slice YA0 D.length Yc0, .slice YA1 M.length Yc1, .int .i64 fz, .bool fo] 30)).cell? ⟨w7.heap.size, 1, none⟩ = some (.slice YA1 M.length Yc1)) := Lib.hid (by rw [cell_of_row _ _ _ _ _ _ (heap_alloc_new w7 _)]; rfl)
  have S2_8 : Hid ((w7.alloc (.cells #[.slice YA0 D.length Yc0, .slice YA1 M.length Yc1, .int .i64 fz, .bool fo] 30)).cell? ⟨w7.heap.size, 2, none⟩ = some (.int .i64 fz)) := Lib.hid (by rw [cell_of_row _ _ _ _ _ _ (heap_alloc_new w7 _)]; rfl)
  have S3_8 : Hid ((w7.alloc (.cells #[.slice YA0 D.length Yc0, .slice YA1 M.length Yc1, .int .i64 fz, .bool fo] 30)).cell? ⟨w7.heap.size, 3, none⟩ = some (.bool fo)) := Lib.hid (by rw [cell_of_row _ _ _ _ _ _ (heap_alloc_new w7 _)]; rfl)
  have qF0 := F0_8.out
  have qF1 := F1_8.out
  have qF2 := F2_8.out
  have qF3 := F3_8.out
  have qQ0 := Q0_8.out
  have qQ1 := Q1_8.out
  have qQ2 := Q2_8.out
  have qQ3 := Q3_8.out
  have qK0 := K0_8.out
  have qK1 := K1_8.out
  have qK2 := K2_8.out
  have qK3 := K3_8.out
  have qS0 := S0_8.out
  have qS1 := S1_8.out
  have qS2 := S2_8.out
  have qS3 := S3_8.out
  go_wp2_with fail
  clear qF0 qF1 qF2 qF3 qQ0 qQ1 qQ2 qQ3 qK0 qK1 qK2 qK3 qS0 qS1 qS2 qS3
  generalize (w7.alloc (.cells #[.slice YA0 D.length Yc0, .slice YA1 M.length Yc1, .int .i64 fz, .bool fo] 30)) = w8 at *
  refine (eqDisk_any (OY0_8.out.rit ID.out) (OY1_8.out.riu IM.out) (OZ0_8.out.rit ID.out) (OZ1_8.out.riu IM.out) (Nat.le_refl _)).mono ?_
  rintro e w9 ⟨rfl, g⟩
  have G9 := Lib.hid g; have SZ9 : Hid (w8.heap.size ≤ w9.heap.size) := Lib.hid g.size; clear g
  have F0_9 : Hid (w9.cell? ⟨w.heap.size, 0, none⟩ = some (.slice A0 xs0_0.length c0)) := Lib.hid (oldcell G9.out F0_8.out)
  have F1_9 : Hid (w9.cell? ⟨w.heap.size, 1, none⟩ = some (.slice A1 xs0_1.length c1)) := Lib.hid (oldcell G9.out F1_8.out)
  have F2_9 : Hid (w9.cell? ⟨w.heap.size, 2, none⟩ = some (.int .i64 n0_2)) := Lib.hid (oldcell G9.out F2_8.out)
  have F3_9 : Hid (w9.cell? ⟨w.heap.size, 3, none⟩ = some (.bool n0_3)) := Lib.hid (oldcell G9.out F3_8.out)
  have OZ0_9 : Hid (OT w9 w2.heap.size (.slice ZA0 D.length Zc0) D) := Lib.hid (own_bel OZ0_8.out G9.out)
  have OZ1_9 : Hid (OU w9 w2.heap.size (.slice ZA1 M.length Zc1) M) := Lib.hid (own_bel OZ1_8.out G9.out)
  have Q0_9 : Hid (w9.cell? ⟨w3.heap.size, 0, none⟩ = some (.slice ZA0 D.length Zc0)) := Lib.hid (oldcell G9.out Q0_8.out)
  have Q1_9 : Hid (w9.cell? ⟨w3.heap.size, 1, none⟩ = some (.slice ZA1 M.length Zc1)) := Lib.hid (oldcell G9.out Q1_8.out)
  have Q2_9 : Hid (w9.cell? ⟨w3.heap.size, 2, none⟩ = some (.int .i64 fz)) := Lib.hid (oldcell G9.out Q2_8.out)
  have Q3_9 : Hid (w9.cell? ⟨w3.heap.size, 3, none⟩ = some (.bool fo)) := Lib.hid (oldcell G9.out Q3_8.out)
  have OV0_9 : Hid (OT w9 w4.heap.size (.slice VA0 xs0_0.length xs0_0.length) xs0_0) := Lib.hid (own_bel OV0_8.out G9.out)
  have OV1_9 : Hid (OU w9 w4.heap.size (.slice VA1 xs0_1.length xs0_1.length) xs0_1) := Lib.hid (own_bel OV1_8.out G9.out)
  have K0_9 : Hid (w9.cell? ⟨w5.heap.size, 0, none⟩ = some (.slice VA0 xs0_0.length xs0_0.length)) := Lib.hid (oldcell G9.out K0_8.out)
  have K1_9 : Hid (w9.cell? ⟨w5.heap.size, 1, none⟩ = some (.slice VA1 xs0_1.length xs0_1.length)) := Lib.hid (oldcell G9.out K1_8.out)
  have K2_9 : Hid (w9.cell? ⟨w5.heap.size, 2, none⟩ = some (.int .i64 n0_2)) := Lib.hid (oldcell G9.out K2_8.out)
  have K3_9 : Hid (w9.cell? ⟨w5.heap.size, 3, none⟩ = some (.bool n0_3)) := Lib.hid (oldcell G9.out K3_8.out)
  have OY0_9 : Hid (OT w9 w6.heap.size (.slice YA0 D.length Yc0) D) := Lib.hid (own_bel OY0_8.out G9.out)
  have OY1_9 : Hid (OU w9 w6.heap.size (.slice YA1 M.length Yc1) M) := Lib.hid (own_bel OY1_8.out G9.out)
  have S0_9 : Hid (w9.cell? ⟨w7.heap.size, 0, none⟩ = some (.slice YA0 D.length Yc0)) := Lib.hid (oldcell G9.out S0_8.out)
  have S1_9 : Hid (w9.cell? ⟨w7.heap.size, 1, none⟩ = some (.slice YA1 M.length Yc1)) := Lib.hid (oldcell G9.out S1_8.out)
  have S2_9 : Hid (w9.cell? ⟨w7.heap.size, 2, none⟩ = some (.int .i64 fz)) := Lib.hid (oldcell G9.out S2_8.out)
  have S3_9 : Hid (w9.cell? ⟨w7.heap.size, 3, none⟩ = some (.bool fo)) := Lib.hid (oldcell G9.out S3_8.out)
  have HB9 : Hid (Below w.heap.size w w9) := Lib.hid (HB8.out.trans (G9.out.mono HB8.out.size))
  have HSd : Hid (∀ W, Below w9.heap.size w9 W → W.cell? ⟨w.heap.size, 0, none⟩ = some (.slice A0 xs0_0.length c0) ∧ W.cell? ⟨w.heap.size, 1, none⟩ = some (.slice A1 xs0_1.length c1) ∧ W.cell? ⟨w.heap.size, 2, none⟩ = some (.int .i64 n0_2) ∧ W.cell? ⟨w.heap.size, 3, none⟩ = some (.bool n0_3) ∧ W.cell? ⟨w5.heap.size, 0, none⟩ = some (.slice VA0 xs0_0.length xs0_0.length) ∧ W.cell? ⟨w5.heap.size, 1, none⟩ = some (.slice VA1 xs0_1.length xs0_1.length) ∧ W.cell? ⟨w5.heap.size, 2, none⟩ = some (.int .i64 n0_2) ∧ W.cell? ⟨w5.heap.size, 3, none⟩ = some (.bool n0_3)) := Lib.hid (fun W hW => ⟨oldcell hW F0_9.out, oldcell hW F1_9.out, oldcell hW F2_9.out, oldcell hW F3_9.out, oldcell hW K0_9.out, oldcell hW K1_9.out, oldcell hW K2_9.out, oldcell hW K3_9.out⟩)
  have HDd : Hid (Below w9.heap.size w9 w9.drew) := Lib.hid (Below.refl _ _).drew
  have HEd : Hid (Below w.heap.size w w9.drew) := Lib.hid (HB9.out.trans (HDd.out.mono HB9.out.size))
  have qF0 := F0_9.out
  have qF1 := F1_9.out
  have qF2 := F2_9.out
  have qF3 := F3_9.out
  have qQ0 := Q0_9.out
  have qQ1 := Q1_9.out
  have qQ2 := Q2_9.out
  have qQ3 := Q3_9.out
  have qK0 := K0_9.out
  have qK1 := K1_9.out
  have qK2 := K2_9.out
  have qK3 := K3_9.out
  have qS0 := S0_9.out
  have qS1 := S1_9.out
  have qS2 := S2_9.out
  have qS3 := S3_9.out
  go_wp2
  clear qF0 qF1 qF2 qF3 qQ0 qQ1 qQ2 qQ3 qK0 qK1 qK2 qK3 qS0 qS1 qS2 qS3
  go_region_held3 (fun W => W.cell? ⟨w.heap.size, 0, none⟩ = some (.slice A0 xs0_0.length c0) ∧ W.cell? ⟨w.heap.size, 1, none⟩ = some (.slice A1 xs0_1.length c1) ∧ W.cell? ⟨w.heap.size, 2, none⟩ = some (.int .i64 n0_2) ∧ W.cell? ⟨w.heap.size, 3, none⟩ = some (.bool n0_3) ∧ W.cell? ⟨w5.heap.size, 0, none⟩ = some (.slice VA0 xs0_0.length xs0_0.length) ∧ W.cell? ⟨w5.heap.size, 1, none⟩ = some (.slice VA1 xs0_1.length xs0_1.length) ∧ W.cell? ⟨w5.heap.size, 2, none⟩ = some (.int .i64 n0_2) ∧ W.cell? ⟨w5.heap.size, 3, none⟩ = some (.bool n0_3)) (exact HSd.out _ (by first | exact kb | exact ka | exact HDd.out))
    ((first | (go_at_call 21; go_fit (toDisk_any (Ha.out.at (Nat.le_refl _) HEd.out) (Hb.out.at (Nat.le_refl _) HEd.out) (Nat.le_refl _) SM.out.1 SM.out.2); rintro e ua ⟨NA0, NA1, rfl, oa, ob, hap, ga⟩; have ON0 := Lib.hid oa; have ON1 := Lib.hid ob; clear oa ob hap; have ka : Below w9.heap.size w9 ua := HDd.out.trans ga; have gaa := Lib.hid ga; clear ga) | (go_at_call 23; go_fit (eqDisk_any (OT.rit (own_bel OV0_9.out ka) IDa.out) (OU.riu (own_bel OV1_9.out ka) IMa.out) (ON0.out.rit IDa.out) (ON1.out.riu IMa.out) (Nat.le_refl _)); rintro e w10 ⟨rfl, gb⟩; have kb : Below w9.heap.size w9 w10 := ka.trans (gb.mono ka.size); clear gb)))
  try simp only [Exit.then]
  have G10 := Lib.hid kb; have SZ10 : Hid (w9.heap.size ≤ w10.heap.size) := Lib.hid kb.size; clear kb ka gaa
  have F0_10 : Hid (w10.cell? ⟨w.heap.size, 0, none⟩ = some (.slice A0 xs0_0.length c0)) := Lib.hid (oldcell G10.out F0_9.out)
  have F1_10 : Hid (w10.cell? ⟨w.heap.size, 1, none⟩ = some (.slice A1 xs0_1.length c1)) := Lib.hid (oldcell G10.out F1_9.out)
  have F2_10 : Hid (w10.cell? ⟨w.heap.size, 2, none⟩ = some (.int .i64 n0_2)) := Lib.hid (oldcell G10.out F2_9.out)
  have F3_10 : Hid (w10.cell? ⟨w.heap.size, 3, none⟩ = some (.bool n0_3)) := Lib.hid (oldcell G10.out F3_9.out)
  have OZ0_10 : Hid (OT w10 w2.heap.size (.slice ZA0 D.length Zc0) D) := Lib.hid (own_bel OZ0_9.out G10.out)
  have OZ1_10 : Hid (OU w10 w2.heap.size (.slice ZA1 M.length Zc1) M) := Lib.hid (own_bel OZ1_9.out G10.out)
  have Q0_10 : Hid (w10.cell? ⟨w3.heap.size, 0, none⟩ = some (.slice ZA0 D.length Zc0)) := Lib.hid (oldcell G10.out Q0_9.out)
  have Q1_10 : Hid (w10.cell? ⟨w3.heap.size, 1, none⟩ = some (.slice ZA1 M.length Zc1)) := Lib.hid (oldcell G10.out Q1_9.out)
  have Q2_10 : Hid (w10.cell? ⟨w3.heap.size, 2, none⟩ = some (.int .i64 fz)) := Lib.hid (oldcell G10.out Q2_9.out)
  have Q3_10 : Hid (w10.cell? ⟨w3.heap.size, 3, none⟩ = some (.bool fo)) := Lib.hid (oldcell G10.out Q3_9.out)
  have OV0_10 : Hid (OT w10 w4.heap.size (.slice VA0 xs0_0.length xs0_0.length) xs0_0) := Lib.hid (own_bel OV0_9.out G10.out)
  have OV1_10 : Hid (OU w10 w4.heap.size (.slice VA1 xs0_1.length xs0_1.length) xs0_1) := Lib.hid (own_bel OV1_9.out G10.out)
  have K0_10 : Hid (w10.cell? ⟨w5.heap.size, 0, none⟩ = some (.slice VA0 xs0_0.length xs0_0.length)) := Lib.hid (oldcell G10.out K0_9.out)
  have K1_10 : Hid (w10.cell? ⟨w5.heap.size, 1, none⟩ = some (.slice VA1 xs0_1.length xs0_1.length)) := Lib.hid (oldcell G10.out K1_9.out)
  have K2_10 : Hid (w10.cell? ⟨w5.heap.size, 2, none⟩ = some (.int .i64 n0_2)) := Lib.hid (oldcell G10.out K2_9.out)
  have K3_10 : Hid (w10.cell? ⟨w5.heap.size, 3, none⟩ = some (.bool n0_3)) := Lib.hid (oldcell G10.out K3_9.out)
  have OY0_10 : Hid (OT w10 w6.heap.size (.slice YA0 D.length Yc0) D) := Lib.hid (own_bel OY0_9.out G10.out)
  have OY1_10 : Hid (OU w10 w6.heap.size (.slice YA1 M.length Yc1) M) := Lib.hid (own_bel OY1_9.out G10.out)
  have S0_10 : Hid (w10.cell? ⟨w7.heap.size, 0, none⟩ = some (.slice YA0 D.length Yc0)) := Lib.hid (oldcell G10.out S0_9.out)
  have S1_10 : Hid (w10.cell? ⟨w7.heap.size, 1, none⟩ = some (.slice YA1 M.length Yc1)) := Lib.hid (oldcell G10.out S1_9.out)
  have S2_10 : Hid (w10.cell? ⟨w7.heap.size, 2, none⟩ = some (.int .i64 fz)) := Lib.hid (oldcell G10.out S2_9.out)
  have S3_10 : Hid (w10.cell? ⟨w7.heap.size, 3, none⟩ = some (.bool fo)) := Lib.hid (oldcell G10.out S3_9.out)
  have HB10 : Hid (Below w.heap.size w w10) := Lib.hid (HB9.out.trans (G10.out.mono HB9.out.size))
  have qF0 := F0_10.out
  have qF1 := F1_10.out
  have qF2 := F2_10.out
  have qF3 := F3_10.out
  have qQ0 := Q0_10.out
  have qQ1 := Q1_10.out
  have qQ2 := Q2_10.out
  have qQ3 := Q3_10.out
  have qK0 := K0_10.out
  have qK1 := K1_10.out
  have qK2 := K2_10.out
  have qK3 := K3_10.out
  have qS0 := S0_10.out
  have qS1 := S1_10.out
  have qS2 := S2_10.out
  have qS3 := S3_10.out
  go_wp2_with fail
  clear qF0 qF1 qF2 qF3 qQ0 qQ1 qQ2 qQ3 qK0 qK1 qK2 qK3 qS0 qS1 qS2 qS3
  refine (markDisk_any (lo := w4.heap.size) (hi := w5.heap.size) OV0_10.out OV1_10.out IV0.out IV1.out XV.out (by have s0 := SZ0.out; have s1 := SZ1.out; have s2 := SZ2.out; have s3 := SZ3.out; have s4 := SZ4.out; have s5 := SZ5.out; have s6 := SZ6.out; have s7 := SZ7.out; have s8 := SZ8.out; have s9 := SZ9.out; have s10 := SZ10.out; omega) 1 (by omega) (by have h1 := SM.out.1.1; have h2 := SM.out.2.1; omega)).mono ?_
  rintro e w11 ⟨rfl, oa, ob, mm⟩
  have Mv11 : Hid (Mv w4.heap.size w5.heap.size w10 w11) := Lib.hid (mm)
  have SZ11 : Hid (w10.heap.size ≤ w11.heap.size) := Lib.hid Mv11.out.2.2.2.1
  have F0_11 : Hid (w11.cell? ⟨w.heap.size, 0, none⟩ = some (.slice A0 xs0_0.length c0)) := Lib.hid (Mv11.out.cell F0_10.out (by have s0 := SZ0.out; have s1 := SZ1.out; have s2 := SZ2.out; have s3 := SZ3.out; have s4 := SZ4.out; have s5 := SZ5.out; have s6 := SZ6.out; have s7 := SZ7.out; have s8 := SZ8.out; have s9 := SZ9.out; have s10 := SZ10.out; have s11 := SZ11.out; simp only; omega))
  have F1_11 : Hid (w11.cell? ⟨w.heap.size, 1, none⟩ = some (.slice A1 xs0_1.length c1)) := Lib.hid (Mv11.out.cell F1_10.out (by have s0 := SZ0.out; have s1 := SZ1.out; have s2 := SZ2.out; have s3 := SZ3.out; have s4 := SZ4.out; have s5 := SZ5.out; have s6 := SZ6.out; have s7 := SZ7.out; have s8 := SZ8.out; have s9 := SZ9.out; have s10 := SZ10.out; have s11 := SZ11.out; simp only; omega))
  have F2_11 : Hid (w11.cell? ⟨w.heap.size, 2, none⟩ = some (.int .i64 n0_2)) := Lib.hid (Mv11.out.cell F2_10.out (by have s0 := SZ0.out; have s1 := SZ1.out; have s2 := SZ2.out; have s3 := SZ3.out; have s4 := SZ4.out; have s5 := SZ5.out; have s6 := SZ6.out; have s7 := SZ7.out; have s8 := SZ8.out; have s9 := SZ9.out; have s10 := SZ10.out; have s11 := SZ11.out; simp only; omega))
  have F3_11 : Hid (w11.cell? ⟨w.heap.size, 3, none⟩ = some (.bool n0_3)) := Lib.hid (Mv11.out.cell F3_10.out (by have s0 := SZ0.out; have s1 := SZ1.out; have s2 := SZ2.out; have s3 := SZ3.out; have s4 := SZ4.out; have s5 := SZ5.out; have s6 := SZ6.out; have s7 := SZ7.out; have s8 := SZ8.out; have s9 := SZ9.out; have s10 := SZ10.out; have s11 := SZ11.out; simp only; omega))
  have OZ0_11 : Hid (OT w11 w2.heap.size (.slice ZA0 D.length Zc0) D) := Lib.hid (own_mv OZ0_10.out Mv11.out (fun g hg => by have := IZ0.out g hg; have s0 := SZ0.out; have s1 := SZ1.out; have s2 := SZ2.out; have s3 := SZ3.out; have s4 := SZ4.out; have s5 := SZ5.out; have s6 := SZ6.out; have s7 := SZ7.out; have s8 := SZ8.out; have s9 := SZ9.out; have s10 := SZ10.out; have s11 := SZ11.out; omega))
  have OZ1_11 : Hid (OU w11 w2.heap.size (.slice ZA1 M.length Zc1) M) := Lib.hid (own_mv OZ1_10.out Mv11.out (fun g hg => by have := IZ1.out g hg; have s0 := SZ0.out; have s1 := SZ1.out; have s2 := SZ2.out; have s3 := SZ3.out; have s4 := SZ4.out; have s5 := SZ5.out; have s6 := SZ6.out; have s7 := SZ7.out; have s8 := SZ8.out; have s9 := SZ9.out; have s10 := SZ10.out; have s11 := SZ11.out; omega))
  have Q0_11 : Hid (w11.cell? ⟨w3.heap.size, 0, none⟩ = some (.slice ZA0 D.length Zc0)) := Lib.hid (Mv11.out.cell Q0_10.out (by have s0 := SZ0.out; have s1 := SZ1.out; have s2 := SZ2.out; have s3 := SZ3.out; have s4 := SZ4.out; have s5 := SZ5.out; have s6 := SZ6.out; have s7 := SZ7.out; have s8 := SZ8.out; have s9 := SZ9.out; have s10 := SZ10.out; have s11 := SZ11.out; simp only; omega))
  have Q1_11 : Hid (w11.cell? ⟨w3.heap.size, 1, none⟩ = some (.slice ZA1 M.length Zc1)) := Lib.hid (Mv11.out.cell Q1_10.out (by have s0 := SZ0.out; have s1 := SZ1.out; have s2 := SZ2.out; have s3 := SZ3.out; have s4 := SZ4.out; have s5 := SZ5.out; have s6 := SZ6.out; have s7 := SZ7.out; have s8 := SZ8.out; have s9 := SZ9.out; have s10 := SZ10.out; have s11 := SZ11.out; simp only; omega))
  have Q2_11 : Hid (w11.cell? ⟨w3.heap.size, 2, none⟩ = some (.int .i64 fz)) := Lib.hid (Mv11.out.cell Q2_10.out (by have s0 := SZ0.out; have s1 := SZ1.out; have s2 := SZ2.out; have s3 := SZ3.out; have s4 := SZ4.out; have s5 := SZ5.out; have s6 := SZ6.out; have s7 := SZ7.out; have s8 := SZ8.out; have s9 := SZ9.out; have s10 := SZ10.out; have s11 := SZ11.out; simp only; omega))
  have Q3_11 : Hid (w11.cell? ⟨w3.heap.size, 3, none⟩ = some (.bool fo)) := Lib.hid (Mv11.out.cell Q3_10.out (by have s0 := SZ0.out; have s1 := SZ1.out; have s2 := SZ2.out; have s3 := SZ3.out; have s4 := SZ4.out; have s5 := SZ5.out; have s6 := SZ6.out; have s7 := SZ7.out; have s8 := SZ8.out; have s9 := SZ9.out; have s10 := SZ10.out; have s11 := SZ11.out; simp only; omega))
  have K0_11 : Hid (w11.cell? ⟨w5.heap.size, 0, none⟩ = some (.slice VA0 xs0_0.length xs0_0.length)) := Lib.hid (Mv11.out.cell K0_10.out (by have s0 := SZ0.out; have s1 := SZ1.out; have s2 := SZ2.out; have s3 := SZ3.out; have s4 := SZ4.out; have s5 := SZ5.out; have s6 := SZ6.out; have s7 := SZ7.out; have s8 := SZ8.out; have s9 := SZ9.out; have s10 := SZ10.out; have s11 := SZ11.out; simp only; omega))
  have K1_11 : Hid (w11.cell? ⟨w5.heap.size, 1, none⟩ = some (.slice VA1 xs0_1.length xs0_1.length)) := Lib.hid (Mv11.out.cell K1_10.out (by have s0 := SZ0.out; have s1 := SZ1.out; have s2 := SZ2.out; have s3 := SZ3.out; have s4 := SZ4.out; have s5 := SZ5.out; have s6 := SZ6.out; have s7 := SZ7.out; have s8 := SZ8.out; have s9 := SZ9.out; have s10 := SZ10.out; have s11 := SZ11.out; simp only; omega))
  have K2_11 : Hid (w11.cell? ⟨w5.heap.size, 2, none⟩ = some (.int .i64 n0_2)) := Lib.hid (Mv11.out.cell K2_10.out (by have s0 := SZ0.out; have s1 := SZ1.out; have s2 := SZ2.out; have s3 := SZ3.out; have s4 := SZ4.out; have s5 := SZ5.out; have s6 := SZ6.out; have s7 := SZ7.out; have s8 := SZ8.out; have s9 := SZ9.out; have s10 := SZ10.out; have s11 := SZ11.out; simp only; omega))
  have K3_11 : Hid (w11.cell? ⟨w5.heap.size, 3, none⟩ = some (.bool n0_3)) := Lib.hid (Mv11.out.cell K3_10.out (by have s0 := SZ0.out; have s1 := SZ1.out; have s2 := SZ2.out; have s3 := SZ3.out; have s4 := SZ4.out; have s5 := SZ5.out; have s6 := SZ6.out; have s7 := SZ7.out; have s8 := SZ8.out; have s9 := SZ9.out; have s10 := SZ10.out; have s11 := SZ11.out; simp only; omega))
  have OY0_11 : Hid (OT w11 w6.heap.size (.slice YA0 D.length Yc0) D) := Lib.hid (own_mv OY0_10.out Mv11.out (fun g hg => by have := IY0.out g hg; have s0 := SZ0.out; have s1 := SZ1.out; have s2 := SZ2.out; have s3 := SZ3.out; have s4 := SZ4.out; have s5 := SZ5.out; have s6 := SZ6.out; have s7 := SZ7.out; have s8 := SZ8.out; have s9 := SZ9.out; have s10 := SZ10.out; have s11 := SZ11.out; omega))
  have OY1_11 : Hid (OU w11 w6.heap.size (.slice YA1 M.length Yc1) M) := Lib.hid (own_mv OY1_10.out Mv11.out (fun g hg => by have := IY1.out g hg; have s0 := SZ0.out; have s1 := SZ1.out; have s2 := SZ2.out; have s3 := SZ3.out; have s4 := SZ4.out; have s5 := SZ5.out; have s6 := SZ6.out; have s7 := SZ7.out; have s8 := SZ8.out; have s9 := SZ9.out; have s10 := SZ10.out; have s11 := SZ11.out; omega))
  have S0_11 : Hid (w11.cell? ⟨w7.heap.size, 0, none⟩ = some (.slice YA0 D.length Yc0)) := Lib.hid (Mv11.out.cell S0_10.out (by have s0 := SZ0.out; have s1 := SZ1.out; have s2 := SZ2.out; have s3 := SZ3.out; have s4 := SZ4.out; have s5 := SZ5.out; have s6 := SZ6.out; have s7 := SZ7.out; have s8 := SZ8.out; have s9 := SZ9.out; have s10 := SZ10.out; have s11 := SZ11.out; simp only; omega))
  have S1_11 : Hid (w11.cell? ⟨w7.heap.size, 1, none⟩ = some (.slice YA1 M.length Yc1)) := Lib.hid (Mv11.out.cell S1_10.out (by have s0 := SZ0.out; have s1 := SZ1.out; have s2 := SZ2.out; have s3 := SZ3.out; have s4 := SZ4.out; have s5 := SZ5.out; have s6 := SZ6.out; have s7 := SZ7.out; have s8 := SZ8.out; have s9 := SZ9.out; have s10 := SZ10.out; have s11 := SZ11.out; simp only; omega))
  have S2_11 : Hid (w11.cell? ⟨w7.heap.size, 2, none⟩ = some (.int .i64 fz)) := Lib.hid (Mv11.out.cell S2_10.out (by have s0 := SZ0.out; have s1 := SZ1.out; have s2 := SZ2.out; have s3 := SZ3.out; have s4 := SZ4.out; have s5 := SZ5.out; have s6 := SZ6.out; have s7 := SZ7.out; have s8 := SZ8.out; have s9 := SZ9.out; have s10 := SZ10.out; have s11 := SZ11.out; simp only; omega))
  have S3_11 : Hid (w11.cell? ⟨w7.heap.size, 3, none⟩ = some (.bool fo)) := Lib.hid (Mv11.out.cell S3_10.out (by have s0 := SZ0.out; have s1 := SZ1.out; have s2 := SZ2.out; have s3 := SZ3.out; have s4 := SZ4.out; have s5 := SZ5.out; have s6 := SZ6.out; have s7 := SZ7.out; have s8 := SZ8.out; have s9 := SZ9.out; have s10 := SZ10.out; have s11 := SZ11.out; simp only; omega))
  have HB11 : Hid (Below w.heap.size w w11) := Lib.hid (Mv11.out.below HB10.out (by have s0 := SZ0.out; have s1 := SZ1.out; have s2 := SZ2.out; have s3 := SZ3.out; have s4 := SZ4.out; have s5 := SZ5.out; have s6 := SZ6.out; have s7 := SZ7.out; have s8 := SZ8.out; have s9 := SZ9.out; have s10 := SZ10.out; have s11 := SZ11.out; omega) HB10.out.size)
  clear oa ob
  have neg1 : ¬ (((1 + xs0_0.length + 2 * xs0_1.length : Nat) : Int) < 0) := by omega
  have qF0 := F0_11.out
  have qF1 := F1_11.out
  have qF2 := F2_11.out
  have qF3 := F3_11.out
  have qQ0 := Q0_11.out
  have qQ1 := Q1_11.out
  have qQ2 := Q2_11.out
  have qQ3 := Q3_11.out
  have qK0 := K0_11.out
  have qK1 := K1_11.out
  have qK2 := K2_11.out
  have qK3 := K3_11.out
  have qS0 := S0_11.out
  have qS1 := S1_11.out
  have qS2 := S2_11.out
  have qS3 := S3_11.out
  go_wp2_with fail
  clear qF0 qF1 qF2 qF3 qQ0 qQ1 qQ2 qQ3 qK0 qK1 qK2 qK3 qS0 qS1 qS2 qS3
  refine (eqDisk_any (OY0_11.out.rit ID.out) (OY1_11.out.riu IM.out) (OZ0_11.out.rit ID.out) (OZ1_11.out.riu IM.out) (Nat.le_refl _)).mono ?_
  rintro e w12 ⟨rfl, g⟩
  have G12 := Lib.hid g; have SZ12 : Hid (w11.heap.size ≤ w12.heap.size) := Lib.hid g.size; clear g
  have F0_12 : Hid (w12.cell? ⟨w.heap.size, 0, none⟩ = some (.slice A0 xs0_0.length c0)) := Lib.hid (oldcell G12.out F0_11.out)
  have F1_12 : Hid (w12.cell? ⟨w.heap.size, 1, none⟩ = some (.slice A1 xs0_1.length c1)) := Lib.hid (oldcell G12.out F1_11.out)
  have F2_12 : Hid (w12.cell? ⟨w.heap.size, 2, none⟩ = some (.int .i64 n0_2)) := Lib.hid (oldcell G12.out F2_11.out)
  have F3_12 : Hid (w12.cell? ⟨w.heap.size, 3, none⟩ = some (.bool n0_3)) := Lib.hid (oldcell G12.out F3_11.out)
  have OZ0_12 : Hid (OT w12 w2.heap.size (.slice ZA0 D.length Zc0) D) := Lib.hid (own_bel OZ0_11.out G12.out)
  have OZ1_12 : Hid (OU w12 w2.heap.size (.slice ZA1 M.length Zc1) M) := Lib.hid (own_bel OZ1_11.out G12.out)
  have Q0_12 : Hid (w12.cell? ⟨w3.heap.size, 0, none⟩ = some (.slice ZA0 D.length Zc0)) := Lib.hid (oldcell G12.out Q0_11.out)
  have Q1_12 : Hid (w12.cell? ⟨w3.heap.size, 1, none⟩ = some (.slice ZA1 M.length Zc1)) := Lib.hid (oldcell G12.out Q1_11.out)
  have Q2_12 : Hid (w12.cell? ⟨w3.heap.size, 2, none⟩ = some (.int .i64 fz)) := Lib.hid (oldcell G12.out Q2_11.out)
  have Q3_12 : Hid (w12.cell? ⟨w3.heap.size, 3, none⟩ = some (.bool fo)) := Lib.hid (oldcell G12.out Q3_11.out)
  have K0_12 : Hid (w12.cell? ⟨w5.heap.size, 0, none⟩ = some (.slice VA0 xs0_0.length xs0_0.length)) := Lib.hid (oldcell G12.out K0_11.out)
  have K1_12 : Hid (w12.cell? ⟨w5.heap.size, 1, none⟩ = some (.slice VA1 xs0_1.length xs0_1.length)) := Lib.hid (oldcell G12.out K1_11.out)
  have K2_12 : Hid (w12.cell? ⟨w5.heap.size, 2, none⟩ = some (.int .i64 n0_2)) := Lib.hid (oldcell G12.out K2_11.out)
  have K3_12 : Hid (w12.cell? ⟨w5.heap.size, 3, none⟩ = some (.bool n0_3)) := Lib.hid (oldcell G12.out K3_11.out)
  have OY0_12 : Hid (OT w12 w6.heap.size (.slice YA0 D.length Yc0) D) := Lib.hid (own_bel OY0_11.out G12.out)
  have OY1_12 : Hid (OU w12 w6.heap.size (.slice YA1 M.length Yc1) M) := Lib.hid (own_bel OY1_11.out G12.out)
  have S0_12 : Hid (w12.cell? ⟨w7.heap.size, 0, none⟩ = some (.slice YA0 D.length Yc0)) := Lib.hid (oldcell G12.out S0_11.out)
  have S1_12 : Hid (w12.cell? ⟨w7.heap.size, 1, none⟩ = some (.slice YA1 M.length Yc1)) := Lib.hid (oldcell G12.out S1_11.out)
  have S2_12 : Hid (w12.cell? ⟨w7.heap.size, 2, none⟩ = some (.int .i64 fz)) := Lib.hid (oldcell G12.out S2_11.out)
  have S3_12 : Hid (w12.cell? ⟨w7.heap.size, 3, none⟩ = some (.bool fo)) := Lib.hid (oldcell G12.out S3_11.out)
  have HB12 : Hid (Below w.heap.size w w12) := Lib.hid (HB11.out.trans (G12.out.mono HB11.out.size))
  have qF0 := F0_12.out
  have qF1 := F1_12.out
  have qF2 := F2_12.out
  have qF3 := F3_12.out
  have qQ0 := Q0_12.out
  have qQ1 := Q1_12.out
  have qQ2 := Q2_12.out
  have qQ3 := Q3_12.out
  have qK0 := K0_12.out
  have qK1 := K1_12.out
  have qK2 := K2_12.out
  have qK3 := K3_12.out
  have qS0 := S0_12.out
  have qS1 := S1_12.out
  have qS2 := S2_12.out
  have qS3 := S3_12.out
  go_wp2_with fail
  clear qF0 qF1 qF2 qF3 qQ0 qQ1 qQ2 qQ3 qK0 qK1 qK2 qK3 qS0 qS1 qS2 qS3
  refine (markDisk_any (lo := w6.heap.size) (hi := w7.heap.size) OY0_12.out OY1_12.out IY0.out IY1.out XY.out (by have s0 := SZ0.out; have s1 := SZ1.out; have s2 := SZ2.out; have s3 := SZ3.out; have s4 := SZ4.out; have s5 := SZ5.out; have s6 := SZ6.out; have s7 := SZ7.out; have s8 := SZ8.out; have s9 := SZ9.out; have s10 := SZ10.out; have s11 := SZ11.out; have s12 := SZ12.out; omega) 1 (by omega) (by have h1 := LD.out; have h2 := LM.out; omega)).mono ?_
  rintro e w13 ⟨rfl, oa, ob, mm⟩
  have Mv13 : Hid (Mv w6.heap.size w7.heap.size w12 w13) := Lib.hid (mm)
  have SZ13 : Hid (w12.heap.size ≤ w13.heap.size) := Lib.hid Mv13.out.2.2.2.1
  have F0_13 : Hid (w13.cell? ⟨w.heap.size, 0, none⟩ = some (.slice A0 xs0_0.length c0)) := Lib.hid (Mv13.out.cell F0_12.out (by have s0 := SZ0.out; have s1 := SZ1.out; have s2 := SZ2.out; have s3 := SZ3.out; have s4 := SZ4.out; have s5 := SZ5.out; have s6 := SZ6.out; have s7 := SZ7.out; have s8 := SZ8.out; have s9 := SZ9.out; have s10 := SZ10.out; have s11 := SZ11.out; have s12 := SZ12.out; have s13 := SZ13.out; simp only; omega))
  have F1_13 : Hid (w13.cell? ⟨w.heap.size, 1, none⟩ = some (.slice A1 xs0_1.length c1)) := Lib.hid (Mv13.out.cell F1_12.out (by have s0 := SZ0.out; have s1 := SZ1.out; have s2 := SZ2.out; have s3 := SZ3.out; have s4 := SZ4.out; have s5 := SZ5.out; have s6 := SZ6.out; have s7 := SZ7.out; have s8 := SZ8.out; have s9 := SZ9.out; have s10 := SZ10.out; have s11 := SZ11.out; have s12 := SZ12.out; have s13 := SZ13.out; simp only; omega))
  have F2_13 : Hid (w13.cell? ⟨w.heap.size, 2, none⟩ = some (.int .i64 n0_2)) := Lib.hid (Mv13.out.cell F2_12.out (by have s0 := SZ0.out; have s1 := SZ1.out; have s2 := SZ2.out; have s3 := SZ3.out; have s4 := SZ4.out; have s5 := SZ5.out; have s6 := SZ6.out; have s7 := SZ7.out; have s8 := SZ8.out; have s9 := SZ9.out; have s10 := SZ10.out; have s11 := SZ11.out; have s12 := SZ12.out; have s13 := SZ13.out; simp only; omega))
  have F3_13 : Hid (w13.cell? ⟨w.heap.size, 3, none⟩ = some (.bool n0_3)) := Lib.hid (Mv13.out.cell F3_12.out (by have s0 := SZ0.out; have s1 := SZ1.out; have s2 := SZ2.out; have s3 := SZ3.out; have s4 := SZ4.out; have s5 := SZ5.out; have s6 := SZ6.out; have s7 := SZ7.out; have s8 := SZ8.out; have s9 := SZ9.out; have s10 := SZ10.out; have s11 := SZ11.out; have s12 := SZ12.out; have s13 := SZ13.out; simp only; omega))
  have OZ0_13 : Hid (OT w13 w2.heap.size (.slice ZA0 D.length Zc0) D) := Lib.hid (own_mv OZ0_12.out Mv13.out (fun g hg => by have := IZ0.out g hg; have s0 := SZ0.out; have s1 := SZ1.out; have s2 := SZ2.out; have s3 := SZ3.out; have s4 := SZ4.out; have s5 := SZ5.out; have s6 := SZ6.out; have s7 := SZ7.out; have s8 := SZ8.out; have s9 := SZ9.out; have s10 := SZ10.out; have s11 := SZ11.out; have s12 := SZ12.out; have s13 := SZ13.out; omega))
  have OZ1_13 : Hid (OU w13 w2.heap.size (.slice ZA1 M.length Zc1) M) := Lib.hid (own_mv OZ1_12.out Mv13.out (fun g hg => by have := IZ1.out g hg; have s0 := SZ0.out; have s1 := SZ1.out; have s2 := SZ2.out; have s3 := SZ3.out; have s4 := SZ4.out; have s5 := SZ5.out; have s6 := SZ6.out; have s7 := SZ7.out; have s8 := SZ8.out; have s9 := SZ9.out; have s10 := SZ10.out; have s11 := SZ11.out; have s12 := SZ12.out; have s13 := SZ13.out; omega))
  have Q0_13 : Hid (w13.cell? ⟨w3.heap.size, 0, none⟩ = some (.slice ZA0 D.length Zc0)) := Lib.hid (Mv13.out.cell Q0_12.out (by have s0 := SZ0.out; have s1 := SZ1.out; have s2 := SZ2.out; have s3 := SZ3.out; have s4 := SZ4.out; have s5 := SZ5.out; have s6 := SZ6.out; have s7 := SZ7.out; have s8 := SZ8.out; have s9 := SZ9.out; have s10 := SZ10.out; have s11 := SZ11.out; have s12 := SZ12.out; have s13 := SZ13.out; simp only; omega))
  have Q1_13 : Hid (w13.cell? ⟨w3.heap.size, 1, none⟩ = some (.slice ZA1 M.length Zc1)) := Lib.hid (Mv13.out.cell Q1_12.out (by have s0 := SZ0.out; have s1 := SZ1.out; have s2 := SZ2.out; have s3 := SZ3.out; have s4 := SZ4.out; have s5 := SZ5.out; have s6 := SZ6.out; have s7 := SZ7.out; have s8 := SZ8.out; have s9 := SZ9.out; have s10 := SZ10.out; have s11 := SZ11.out; have s12 := SZ12.out; have s13 := SZ13.out; simp only; omega))
  have Q2_13 : Hid (w13.cell? ⟨w3.heap.size, 2, none⟩ = some (.int .i64 fz)) := Lib.hid (Mv13.out.cell Q2_12.out (by have s0 := SZ0.out; have s1 := SZ1.out; have s2 := SZ2.out; have s3 := SZ3.out; have s4 := SZ4.out; have s5 := SZ5.out; have s6 := SZ6.out; have s7 := SZ7.out; have s8 := SZ8.out; have s9 := SZ9.out; have s10 := SZ10.out; have s11 := SZ11.out; have s12 := SZ12.out; have s13 := SZ13.out; simp only; omega))
  have Q3_13 : Hid (w13.cell? ⟨w3.heap.size, 3, none⟩ = some (.bool fo)) := Lib.hid (Mv13.out.cell Q3_12.out (by have s0 := SZ0.out; have s1 := SZ1.out; have s2 := SZ2.out; have s3 := SZ3.out; have s4 := SZ4.out; have s5 := SZ5.out; have s6 := SZ6.out; have s7 := SZ7.out; have s8 := SZ8.out; have s9 := SZ9.out; have s10 := SZ10.out; have s11 := SZ11.out; have s12 := SZ12.out; have s13 := SZ13.out; simp only; omega))
  have K0_13 : Hid (w13.cell? ⟨w5.heap.size, 0, none⟩ = some (.slice VA0 xs0_0.length xs0_0.length)) := Lib.hid (Mv13.out.cell K0_12.out (by have s0 := SZ0.out; have s1 := SZ1.out; have s2 := SZ2.out; have s3 := SZ3.out; have s4 := SZ4.out; have s5 := SZ5.out; have s6 := SZ6.out; have s7 := SZ7.out; have s8 := SZ8.out; have s9 := SZ9.out; have s10 := SZ10.out; have s11 := SZ11.out; have s12 := SZ12.out; have s13 := SZ13.out; simp only; omega))
  have K1_13 : Hid (w13.cell? ⟨w5.heap.size, 1, none⟩ = some (.slice VA1 xs0_1.length xs0_1.length)) := Lib.hid (Mv13.out.cell K1_12.out (by have s0 := SZ0.out; have s1 := SZ1.out; have s2 := SZ2.out; have s3 := SZ3.out; have s4 := SZ4.out; have s5 := SZ5.out; have s6 := SZ6.out; have s7 := SZ7.out; have s8 := SZ8.out; have s9 := SZ9.out; have s10 := SZ10.out; have s11 := SZ11.out; have s12 := SZ12.out; have s13 := SZ13.out; simp only; omega))
  have K2_13 : Hid (w13.cell? ⟨w5.heap.size, 2, none⟩ = some (.int .i64 n0_2)) := Lib.hid (Mv13.out.cell K2_12.out (by have s0 := SZ0.out; have s1 := SZ1.out; have s2 := SZ2.out; have s3 := SZ3.out; have s4 := SZ4.out; have s5 := SZ5.out; have s6 := SZ6.out; have s7 := SZ7.out; have s8 := SZ8.out; have s9 := SZ9.out; have s10 := SZ10.out; have s11 := SZ11.out; have s12 := SZ12.out; have s13 := SZ13.out; simp only; omega))
  have K3_13 : Hid (w13.cell? ⟨w5.heap.size, 3, none⟩ = some (.bool n0_3)) := Lib.hid (Mv13.out.cell K3_12.out (by have s0 := SZ0.out; have s1 := SZ1.out; have s2 := SZ2.out; have s3 := SZ3.out; have s4 := SZ4.out; have s5 := SZ5.out; have s6 := SZ6.out; have s7 := SZ7.out; have s8 := SZ8.out; have s9 := SZ9.out; have s10 := SZ10.out; have s11 := SZ11.out; have s12 := SZ12.out; have s13 := SZ13.out; simp only; omega))
  have S0_13 : Hid (w13.cell? ⟨w7.heap.size, 0, none⟩ = some (.slice YA0 D.length Yc0)) := Lib.hid (Mv13.out.cell S0_12.out (by have s0 := SZ0.out; have s1 := SZ1.out; have s2 := SZ2.out; have s3 := SZ3.out; have s4 := SZ4.out; have s5 := SZ5.out; have s6 := SZ6.out; have s7 := SZ7.out; have s8 := SZ8.out; have s9 := SZ9.out; have s10 := SZ10.out; have s11 := SZ11.out; have s12 := SZ12.out; have s13 := SZ13.out; simp only; omega))
  have S1_13 : Hid (w13.cell? ⟨w7.heap.size, 1, none⟩ = some (.slice YA1 M.length Yc1)) := Lib.hid (Mv13.out.cell S1_12.out (by have s0 := SZ0.out; have s1 := SZ1.out; have s2 := SZ2.out; have s3 := SZ3.out; have s4 := SZ4.out; have s5 := SZ5.out; have s6 := SZ6.out; have s7 := SZ7.out; have s8 := SZ8.out; have s9 := SZ9.out; have s10 := SZ10.out; have s11 := SZ11.out; have s12 := SZ12.out; have s13 := SZ13.out; simp only; omega))
  have S2_13 : Hid (w13.cell? ⟨w7.heap.size, 2, none⟩ = some (.int .i64 fz)) := Lib.hid (Mv13.out.cell S2_12.out (by have s0 := SZ0.out; have s1 := SZ1.out; have s2 := SZ2.out; have s3 := SZ3.out; have s4 := SZ4.out; have s5 := SZ5.out; have s6 := SZ6.out; have s7 := SZ7.out; have s8 := SZ8.out; have s9 := SZ9.out; have s10 := SZ10.out; have s11 := SZ11.out; have s12 := SZ12.out; have s13 := SZ13.out; simp only; omega))
  have S3_13 : Hid (w13.cell? ⟨w7.heap.size, 3, none⟩ = some (.bool fo)) := Lib.hid (Mv13.out.cell S3_12.out (by have s0 := SZ0.out; have s1 := SZ1.out; have s2 := SZ2.out; have s3 := SZ3.out; have s4 := SZ4.out; have s5 := SZ5.out; have s6 := SZ6.out; have s7 := SZ7.out; have s8 := SZ8.out; have s9 := SZ9.out; have s10 := SZ10.out; have s11 := SZ11.out; have s12 := SZ12.out; have s13 := SZ13.out; simp only; omega))
  have HB13 : Hid (Below w.heap.size w w13) := Lib.hid (Mv13.out.below HB12.out (by have s0 := SZ0.out; have s1 := SZ1.out; have s2 := SZ2.out; have s3 := SZ3.out; have s4 := SZ4.out; have s5 := SZ5.out; have s6 := SZ6.out; have s7 := SZ7.out; have s8 := SZ8.out; have s9 := SZ9.out; have s10 := SZ10.out; have s11 := SZ11.out; have s12 := SZ12.out; have s13 := SZ13.out; omega) HB12.out.size)
  have OY0_13 : Hid (OT w13 w6.heap.size (.slice YA0 D.length Yc0) (marksT 1 D.length)) := Lib.hid oa; have OY1_13 : Hid (OU w13 w6.heap.size (.slice YA1 M.length Yc1) (marksU (1 + D.length) M.length)) := Lib.hid ob; clear oa ob
  have neg2 : ¬ (((1 + D.length + 2 * M.length : Nat) : Int) < 0) := by omega
  have qF0 := F0_13.out
  have qF1 := F1_13.out
  have qF2 := F2_13.out
  have qF3 := F3_13.out
  have qQ0 := Q0_13.out
  have qQ1 := Q1_13.out
  have qQ2 := Q2_13.out
  have qQ3 := Q3_13.out
  have qK0 := K0_13.out
  have qK1 := K1_13.out
  have qK2 := K2_13.out
  have qK3 := K3_13.out
  have qS0 := S0_13.out
  have qS1 := S1_13.out
  have qS2 := S2_13.out
  have qS3 := S3_13.out
  go_wp2_with fail
  clear qF0 qF1 qF2 qF3 qQ0 qQ1 qQ2 qQ3 qK0 qK1 qK2 qK3 qS0 qS1 qS2 qS3
  refine (heldDisk_any 1 OY0_13.out OY1_13.out (by omega) (by have h1 := LD.out; have h2 := LM.out; omega)).mono ?_
  rintro e w14 ⟨rfl, g⟩
  have G14 := Lib.hid g; have SZ14 : Hid (w13.heap.size ≤ w14.heap.size) := Lib.hid g.size; clear g
  have F0_14 : Hid (w14.cell? ⟨w.heap.size, 0, none⟩ = some (.slice A0 xs0_0.length c0)) := Lib.hid (oldcell G14.out F0_13.out)
  have F1_14 : Hid (w14.cell? ⟨w.heap.size, 1, none⟩ = some (.slice A1 xs0_1.length c1)) := Lib.hid (oldcell G14.out F1_13.out)
  have F2_14 : Hid (w14.cell? ⟨w.heap.size, 2, none⟩ = some (.int .i64 n0_2)) := Lib.hid (oldcell G14.out F2_13.out)
  have F3_14 : Hid (w14.cell? ⟨w.heap.size, 3, none⟩ = some (.bool n0_3)) := Lib.hid (oldcell G14.out F3_13.out)
  have OZ0_14 : Hid (OT w14 w2.heap.size (.slice ZA0 D.length Zc0) D) := Lib.hid (own_bel OZ0_13.out G14.out)
  have OZ1_14 : Hid (OU w14 w2.heap.size (.slice ZA1 M.length Zc1) M) := Lib.hid (own_bel OZ1_13.out G14.out)
  have Q0_14 : Hid (w14.cell? ⟨w3.heap.size, 0, none⟩ = some (.slice ZA0 D.length Zc0)) := Lib.hid (oldcell G14.out Q0_13.out)
  have Q1_14 : Hid (w14.cell? ⟨w3.heap.size, 1, none⟩ = some (.slice ZA1 M.length Zc1)) := Lib.hid (oldcell G14.out Q1_13.out)
  have Q2_14 : Hid (w14.cell? ⟨w3.heap.size, 2, none⟩ = some (.int .i64 fz)) := Lib.hid (oldcell G14.out Q2_13.out)
  have Q3_14 : Hid (w14.cell? ⟨w3.heap.size, 3, none⟩ = some (.bool fo)) := Lib.hid (oldcell G14.out Q3_13.out)
  have K0_14 : Hid (w14.cell? ⟨w5.heap.size, 0, none⟩ = some (.slice VA0 xs0_0.length xs0_0.length)) := Lib.hid (oldcell G14.out K0_13.out)
  have K1_14 : Hid (w14.cell? ⟨w5.heap.size, 1, none⟩ = some (.slice VA1 xs0_1.length xs0_1.length)) := Lib.hid (oldcell G14.out K1_13.out)
  have K2_14 : Hid (w14.cell? ⟨w5.heap.size, 2, none⟩ = some (.int .i64 n0_2)) := Lib.hid (oldcell G14.out K2_13.out)
  have K3_14 : Hid (w14.cell? ⟨w5.heap.size, 3, none⟩ = some (.bool n0_3)) := Lib.hid (oldcell G14.out K3_13.out)
  have S0_14 : Hid (w14.cell? ⟨w7.heap.size, 0, none⟩ = some (.slice YA0 D.length Yc0)) := Lib.hid (oldcell G14.out S0_13.out)
  have S1_14 : Hid (w14.cell? ⟨w7.heap.size, 1, none⟩ = some (.slice YA1 M.length Yc1)) := Lib.hid (oldcell G14.out S1_13.out)
  have S2_14 : Hid (w14.cell? ⟨w7.heap.size, 2, none⟩ = some (.int .i64 fz)) := Lib.hid (oldcell G14.out S2_13.out)
  have S3_14 : Hid (w14.cell? ⟨w7.heap.size, 3, none⟩ = some (.bool fo)) := Lib.hid (oldcell G14.out S3_13.out)
  have OY0_14 : Hid (OT w14 w6.heap.size (.slice YA0 D.length Yc0) (marksT 1 D.length)) := Lib.hid (own_bel OY0_13.out G14.out)
  have OY1_14 : Hid (OU w14 w6.heap.size (.slice YA1 M.length Yc1) (marksU (1 + D.length) M.length)) := Lib.hid (own_bel OY1_13.out G14.out)
  have HB14 : Hid (Below w.heap.size w w14) := Lib.hid (HB13.out.trans (G14.out.mono HB13.out.size))
  have qF0 := F0_14.out
  have qF1 := F1_14.out
  have qF2 := F2_14.out
  have qF3 := F3_14.out
  have qQ0 := Q0_14.out
  have qQ1 := Q1_14.out
  have qQ2 := Q2_14.out
  have qQ3 := Q3_14.out
  have qK0 := K0_14.out
  have qK1 := K1_14.out
  have qK2 := K2_14.out
  have qK3 := K3_14.out
  have qS0 := S0_14.out
  have qS1 := S1_14.out
  have qS2 := S2_14.out
  have qS3 := S3_14.out
  go_wp2_with fail
  clear qF0 qF1 qF2 qF3 qQ0 qQ1 qQ2 qQ3 qK0 qK1 qK2 qK3 qS0 qS1 qS2 qS3
  refine (toDisk_any (Ha.out.at (Nat.le_refl _) HB14.out) (Hb.out.at (Nat.le_refl _) HB14.out) (Nat.le_refl _) SM.out.1 SM.out.2).mono ?_
  rintro e w15 ⟨EA0, EA1, rfl, oa, ob, hap, g⟩
  have G15 := Lib.hid g; have SZ15 : Hid (w14.heap.size ≤ w15.heap.size) := Lib.hid g.size; clear g
  have F0_15 : Hid (w15.cell? ⟨w.heap.size, 0, none⟩ = some (.slice A0 xs0_0.length c0)) := Lib.hid (oldcell G15.out F0_14.out)
  have F1_15 : Hid (w15.cell? ⟨w.heap.size, 1, none⟩ = some (.slice A1 xs0_1.length c1)) := Lib.hid (oldcell G15.out F1_14.out)
  have F2_15 : Hid (w15.cell? ⟨w.heap.size, 2, none⟩ = some (.int .i64 n0_2)) := Lib.hid (oldcell G15.out F2_14.out)
  have F3_15 : Hid (w15.cell? ⟨w.heap.size, 3, none⟩ = some (.bool n0_3)) := Lib.hid (oldcell G15.out F3_14.out)
  have OZ0_15 : Hid (OT w15 w2.heap.size (.slice ZA0 D.length Zc0) D) := Lib.hid (own_bel OZ0_14.out G15.out)
  have OZ1_15 : Hid (OU w15 w2.heap.size (.slice ZA1 M.length Zc1) M) := Lib.hid (own_bel OZ1_14.out G15.out)
  have Q0_15 : Hid (w15.cell? ⟨w3.heap.size, 0, none⟩ = some (.slice ZA0 D.length Zc0)) := Lib.hid (oldcell G15.out Q0_14.out)
  have Q1_15 : Hid (w15.cell? ⟨w3.heap.size, 1, none⟩ = some (.slice ZA1 M.length Zc1)) := Lib.hid (oldcell G15.out Q1_14.out)
  have Q2_15 : Hid (w15.cell? ⟨w3.heap.size, 2, none⟩ = some (.int .i64 fz)) := Lib.hid (oldcell G15.out Q2_14.out)
  have Q3_15 : Hid (w15.cell? ⟨w3.heap.size, 3, none⟩ = some (.bool fo)) := Lib.hid (oldcell G15.out Q3_14.out)
  have K0_15 : Hid (w15.cell? ⟨w5.heap.size, 0, none⟩ = some (.slice VA0 xs0_0.length xs0_0.length)) := Lib.hid (oldcell G15.out K0_14.out)
  have K1_15 : Hid (w15.cell? ⟨w5.heap.size, 1, none⟩ = some (.slice VA1 xs0_1.length xs0_1.length)) := Lib.hid (oldcell G15.out K1_14.out)
  have K2_15 : Hid (w15.cell? ⟨w5.heap.size, 2, none⟩ = some (.int .i64 n0_2)) := Lib.hid (oldcell G15.out K2_14.out)
  have K3_15 : Hid (w15.cell? ⟨w5.heap.size, 3, none⟩ = some (.bool n0_3)) := Lib.hid (oldcell G15.out K3_14.out)
  have S0_15 : Hid (w15.cell? ⟨w7.heap.size, 0, none⟩ = some (.slice YA0 D.length Yc0)) := Lib.hid (oldcell G15.out S0_14.out)
  have S1_15 : Hid (w15.cell? ⟨w7.heap.size, 1, none⟩ = some (.slice YA1 M.length Yc1)) := Lib.hid (oldcell G15.out S1_14.out)
  have S2_15 : Hid (w15.cell? ⟨w7.heap.size, 2, none⟩ = some (.int .i64 fz)) := Lib.hid (oldcell G15.out S2_14.out)
  have S3_15 : Hid (w15.cell? ⟨w7.heap.size, 3, none⟩ = some (.bool fo)) := Lib.hid (oldcell G15.out S3_14.out)
  have OY0_15 : Hid (OT w15 w6.heap.size (.slice YA0 D.length Yc0) (marksT 1 D.length)) := Lib.hid (own_bel OY0_14.out G15.out)
  have OY1_15 : Hid (OU w15 w6.heap.size (.slice YA1 M.length Yc1) (marksU (1 + D.length) M.length)) := Lib.hid (own_bel OY1_14.out G15.out)
  have HB15 : Hid (Below w.heap.size w w15) := Lib.hid (HB14.out.trans (G15.out.mono HB14.out.size))
  have OE0_15 : Hid (OT w15 w14.heap.size (.slice EA0 xs0_0.length xs0_0.length) xs0_0) := Lib.hid oa; clear oa
  have OE1_15 : Hid (OU w15 w14.heap.size (.slice EA1 xs0_1.length xs0_1.length) xs0_1) := Lib.hid ob; clear ob
  have XE := Lib.hid hap; clear hap
  have IE0 := Lib.hid (own_wi OE0_15.out); have IE1 := Lib.hid (own_wi OE1_15.out)
  have qF0 := F0_15.out
  have qF1 := F1_15.out
  have qF2 := F2_15.out
  have qF3 := F3_15.out
  have qQ0 := Q0_15.out
  have qQ1 := Q1_15.out
  have qQ2 := Q2_15.out
  have qQ3 := Q3_15.out
  have qK0 := K0_15.out
  have qK1 := K1_15.out
  have qK2 := K2_15.out
  have qK3 := K3_15.out
  have qS0 := S0_15.out
  have qS1 := S1_15.out
  have qS2 := S2_15.out
  have qS3 := S3_15.out
  go_wp2_with fail
  clear qF0 qF1 qF2 qF3 qQ0 qQ1 qQ2 qQ3 qK0 qK1 qK2 qK3 qS0 qS1 qS2 qS3
  refine (P0.out w15 _ _ (OE0_15.out.rit IDa.out) (OE1_15.out.riu IMa.out)).mono ?_
  rintro e w16 ⟨CA0, CA1, Cc0, Cc1, rfl, oa, ob, hap, g⟩
  have G16 := Lib.hid g; have SZ16 : Hid (w15.heap.size ≤ w16.heap.size) := Lib.hid g.size; clear g
  have F0_16 : Hid (w16.cell? ⟨w.heap.size, 0, none⟩ = some (.slice A0 xs0_0.length c0)) := Lib.hid (oldcell G16.out F0_15.out)
  have F1_16 : Hid (w16.cell? ⟨w.heap.size, 1, none⟩ = some (.slice A1 xs0_1.length c1)) := Lib.hid (oldcell G16.out F1_15.out)
  have F2_16 : Hid (w16.cell? ⟨w.heap.size, 2, none⟩ = some (.int .i64 n0_2)) := Lib.hid (oldcell G16.out F2_15.out)
  have F3_16 : Hid (w16.cell? ⟨w.heap.size, 3, none⟩ = some (.bool n0_3)) := Lib.hid (oldcell G16.out F3_15.out)
  have OZ0_16 : Hid (OT w16 w2.heap.size (.slice ZA0 D.length Zc0) D) := Lib.hid (own_bel OZ0_15.out G16.out)
  have OZ1_16 : Hid (OU w16 w2.heap.size (.slice ZA1 M.length Zc1) M) := Lib.hid (own_bel OZ1_15.out G16.out)
  have Q0_16 : Hid (w16.cell? ⟨w3.heap.size, 0, none⟩ = some (.slice ZA0 D.length Zc0)) := Lib.hid (oldcell G16.out Q0_15.out)
  have Q1_16 : Hid (w16.cell? ⟨w3.heap.size, 1, none⟩ = some (.slice ZA1 M.length Zc1)) := Lib.hid (oldcell G16.out Q1_15.out)
  have Q2_16 : Hid (w16.cell? ⟨w3.heap.size, 2, none⟩ = some (.int .i64 fz)) := Lib.hid (oldcell G16.out Q2_15.out)
  have Q3_16 : Hid (w16.cell? ⟨w3.heap.size, 3, none⟩ = some (.bool fo)) := Lib.hid (oldcell G16.out Q3_15.out)
  have K0_16 : Hid (w16.cell? ⟨w5.heap.size, 0, none⟩ = some (.slice VA0 xs0_0.length xs0_0.length)) := Lib.hid (oldcell G16.out K0_15.out)
  have K1_16 : Hid (w16.cell? ⟨w5.heap.size, 1, none⟩ = some (.slice VA1 xs0_1.length xs0_1.length)) := Lib.hid (oldcell G16.out K1_15.out)
  have K2_16 : Hid (w16.cell? ⟨w5.heap.size, 2, none⟩ = some (.int .i64 n0_2)) := Lib.hid (oldcell G16.out K2_15.out)
  have K3_16 : Hid (w16.cell? ⟨w5.heap.size, 3, none⟩ = some (.bool n0_3)) := Lib.hid (oldcell G16.out K3_15.out)
  have S0_16 : Hid (w16.cell? ⟨w7.heap.size, 0, none⟩ = some (.slice YA0 D.length Yc0)) := Lib.hid (oldcell G16.out S0_15.out)
  have S1_16 : Hid (w16.cell? ⟨w7.heap.size, 1, none⟩ = some (.slice YA1 M.length Yc1)) := Lib.hid (oldcell G16.out S1_15.out)
  have S2_16 : Hid (w16.cell? ⟨w7.heap.size, 2, none⟩ = some (.int .i64 fz)) := Lib.hid (oldcell G16.out S2_15.out)
  have S3_16 : Hid (w16.cell? ⟨w7.heap.size, 3, none⟩ = some (.bool fo)) := Lib.hid (oldcell G16.out S3_15.out)
  have OY0_16 : Hid (OT w16 w6.heap.size (.slice YA0 D.length Yc0) (marksT 1 D.length)) := Lib.hid (own_bel OY0_15.out G16.out)
  have OY1_16 : Hid (OU w16 w6.heap.size (.slice YA1 M.length Yc1) (marksU (1 + D.length) M.length)) := Lib.hid (own_bel OY1_15.out G16.out)
  have OE0_16 : Hid (OT w16 w14.heap.size (.slice EA0 xs0_0.length xs0_0.length) xs0_0) := Lib.hid (own_bel OE0_15.out G16.out)
  have OE1_16 : Hid (OU w16 w14.heap.size (.slice EA1 xs0_1.length xs0_1.length) xs0_1) := Lib.hid (own_bel OE1_15.out G16.out)
  have HB16 : Hid (Below w.heap.size w w16) := Lib.hid (HB15.out.trans (G16.out.mono HB15.out.size))
  have OC0_16 : Hid (OT w16 w15.heap.size (.slice CA0 D.length Cc0) D) := Lib.hid oa; clear oa
  have OC1_16 : Hid (OU w16 w15.heap.size (.slice CA1 M.length Cc1) M) := Lib.hid ob; clear ob
  have XC := Lib.hid hap; clear hap
  have IC0 := Lib.hid (own_wi OC0_16.out); have IC1 := Lib.hid (own_wi OC1_16.out)
  have G17 : Hid (Below w16.heap.size w16 (w16.alloc (.cells #[.slice CA0 D.length Cc0, .slice CA1 M.length Cc1, .int .i64 fz, .bool fo] 30))) := Lib.hid ((Below.refl _ _).alloc (Nat.le_refl _) _)
  have SZ17 : Hid (w16.heap.size + 1 ≤ (w16.alloc (.cells #[.slice CA0 D.length Cc0, .slice CA1 M.length Cc1, .int .i64 fz, .bool fo] 30)).heap.size) := Lib.hid (by simp)
  have F0_17 : Hid ((w16.alloc (.cells #[.slice CA0 D.length Cc0, .slice CA1 M.length Cc1, .int .i64 fz, .bool fo] 30)).cell? ⟨w.heap.size, 0, none⟩ = some (.slice A0 xs0_0.length c0)) := Lib.hid (oldcell G17.out F0_16.out)
  have F1_17 : Hid ((w16.alloc (.cells #[.slice CA0 D.length Cc0, .slice CA1 M.length Cc1, .int .i64 fz, .bool fo] 30)).cell? ⟨w.heap.size, 1, none⟩ = some (.slice A1 xs0_1.length c1)) := Lib.hid (oldcell G17.out F1_16.out)
  have F2_17 : Hid ((w16.alloc (.cells #[.slice CA0 D.length Cc0, .slice CA1 M.length Cc1, .int .i64 fz, .bool fo] 30)).cell? ⟨w.heap.size, 2, none⟩ = some (.int .i64 n0_2)) := Lib.hid (oldcell G17.out F2_16.out)
  have F3_17 : Hid ((w16.alloc (.cells #[.slice CA0 D.length Cc0, .slice CA1 M.length Cc1, .int .i64 fz, .bool fo] 30)).cell? ⟨w.heap.size, 3, none⟩ = some (.bool n0_3)) := Lib.hid (oldcell G17.out F3_16.out)
  have OZ0_17 : Hid (OT (w16.alloc (.cells #[.slice CA0 D.length Cc0, .slice CA1 M.length Cc1, .int .i64 fz, .bool fo] 30)) w2.heap.size (.slice ZA0 D.length Zc0) D) := Lib.hid (own_bel OZ0_16.out G17.out)
  have OZ1_17 : Hid (OU (w16.alloc (.cells #[.slice CA0 D.length Cc0, .slice CA1 M.length Cc1, .int .i64 fz, .bool fo] 30)) w2.heap.size (.slice ZA1 M.length Zc1) M) := Lib.hid (own_bel OZ1_16.out G17.out)
  have Q0_17 : Hid ((w16.alloc (.cells #[.slice CA0 D.length Cc0, .slice CA1 M.length Cc1, .int .i64 fz, .bool fo] 30)).cell? ⟨w3.heap.size, 0, none⟩ = some (.slice ZA0 D.length Zc0)) := Lib.hid (oldcell G17.out Q0_16.out)
  have Q1_17 : Hid ((w16.alloc (.cells #[.slice CA0 D.length Cc0, .slice CA1 M.length Cc1, .int .i64 fz, .bool fo] 30)).cell? ⟨w3.heap.size, 1, none⟩ = some (.slice ZA1 M.length Zc1)) := Lib.hid (oldcell G17.out Q1_16.out)
  have Q2_17 : Hid ((w16.alloc (.cells #[.slice CA0 D.length Cc0, .slice CA1 M.length Cc1, .int .i64 fz, .bool fo] 30)).cell? ⟨w3.heap.size, 2, none⟩ = some (.int .i64 fz)) := Lib.hid (oldcell G17.out Q2_16.out)
  have Q3_17 : Hid ((w16.alloc (.cells #[.slice CA0 D.length Cc0, .slice CA1 M.length Cc1, .int .i64 fz, .bool fo] 30)).cell? ⟨w3.heap.size, 3, none⟩ = some (.bool fo)) := Lib.hid (oldcell G17.out Q3_16.out)
  have K0_17 : Hid ((w16.alloc (.cells #[.slice CA0 D.length Cc0, .slice CA1 M.length Cc1, .int .i64 fz, .bool fo] 30)).cell? ⟨w5.heap.size, 0, none⟩ = some (.slice VA0 xs0_0.length xs0_0.length)) := Lib.hid (oldcell G17.out K0_16.out)
  have K1_17 : Hid ((w16.alloc (.cells #[.slice CA0 D.length Cc0, .slice CA1 M.length Cc1, .int .i64 fz, .bool fo] 30)).cell? ⟨w5.heap.size, 1, none⟩ = some (.slice VA1 xs0_1.length xs0_1.length)) := Lib.hid (oldcell G17.out K1_16.out)
  have K2_17 : Hid ((w16.alloc (.cells #[.slice CA0 D.length Cc0, .slice CA1 M.length Cc1, .int .i64 fz, .bool fo] 30)).cell? ⟨w5.heap.size, 2, none⟩ = some (.int .i64 n0_2)) := Lib.hid (oldcell G17.out K2_16.out)
  have K3_17 : Hid ((w16.alloc (.cells #[.slice CA0 D.length Cc0, .slice CA1 M.length Cc1, .int .i64 fz, .bool fo] 30)).cell? ⟨w5.heap.size, 3, none⟩ = some (.bool n0_3)) := Lib.hid (oldcell G17.out K3_16.out)
  have S0_17 : Hid ((w16.alloc (.cells #[.slice CA0 D.length Cc0, .slice CA1 M.length Cc1, .int .i64 fz, .bool fo] 30)).cell? ⟨w7.heap.size, 0, none⟩ = some (.slice YA0 D.length Yc0)) := Lib.hid (oldcell G17.out S0_16.out)
  have S1_17 : Hid ((w16.alloc (.cells #[.slice CA0 D.length Cc0, .slice CA1 M.length Cc1, .int .i64 fz, .bool fo] 30)).cell? ⟨w7.heap.size, 1, none⟩ = some (.slice YA1 M.length Yc1)) := Lib.hid (oldcell G17.out S1_16.out)
  have S2_17 : Hid ((w16.alloc (.cells #[.slice CA0 D.length Cc0, .slice CA1 M.length Cc1, .int .i64 fz, .bool fo] 30)).cell? ⟨w7.heap.size, 2, none⟩ = some (.int .i64 fz)) := Lib.hid (oldcell G17.out S2_16.out)
  have S3_17 : Hid ((w16.alloc (.cells #[.slice CA0 D.length Cc0, .slice CA1 M.length Cc1, .int .i64 fz, .bool fo] 30)).cell? ⟨w7.heap.size, 3, none⟩ = some (.bool fo)) := Lib.hid (oldcell G17.out S3_16.out)
  have OY0_17 : Hid (OT (w16.alloc (.cells #[.slice CA0 D.length Cc0, .slice CA1 M.length Cc1, .int .i64 fz, .bool fo] 30)) w6.heap.size (.slice YA0 D.length Yc0) (marksT 1 D.length)) := Lib.hid (own_bel OY0_16.out G17.out)
  have OY1_17 : Hid (OU (w16.alloc (.cells #[.slice CA0 D.length Cc0, .slice CA1 M.length Cc1, .int .i64 fz, .bool fo] 30)) w6.heap.size (.slice YA1 M.length Yc1) (marksU (1 + D.length) M.length)) := Lib.hid (own_bel OY1_16.out G17.out)
  have OC0_17 : Hid (OT (w16.alloc (.cells #[.slice CA0 D.length Cc0, .slice CA1 M.length Cc1, .int .i64 fz, .bool fo] 30)) w15.heap.size (.slice CA0 D.length Cc0) D) := Lib.hid (own_bel OC0_16.out G17.out)
  have OC1_17 : Hid (OU (w16.alloc (.cells #[.slice CA0 D.length Cc0, .slice CA1 M.length Cc1, .int .i64 fz, .bool fo] 30)) w15.heap.size (.slice CA1 M.length Cc1) M) := Lib.hid (own_bel OC1_16.out G17.out)
  have HB17 : Hid (Below w.heap.size w (w16.alloc (.cells #[.slice CA0 D.length Cc0, .slice CA1 M.length Cc1, .int .i64 fz, .bool fo] 30))) := Lib.hid (HB16.out.trans (G17.out.mono HB16.out.size))
  have J0_17 : Hid ((w16.alloc (.cells #[.slice CA0 D.length Cc0, .slice CA1 M.length Cc1, .int .i64 fz, .bool fo] 30)).cell? ⟨w16.heap.size, 0, none⟩ = some (.slice CA0 D.length Cc0)) := Lib.hid (by rw [cell_of_row _ _ _ _ _ _ (heap_alloc_new w16 _)]; rfl)
  have J1_17 : Hid ((w16.alloc (.cells #[.slice CA0 D.length Cc0, .slice CA1 M.length Cc1, .int .i64 fz, .bool fo] 30)).cell? ⟨w16.heap.size, 1, none⟩ = some (.slice CA1 M.length Cc1)) := Lib.hid (by rw [cell_of_row _ _ _ _ _ _ (heap_alloc_new w16 _)]; rfl)
  have J2_17 : Hid ((w16.alloc (.cells #[.slice CA0 D.length Cc0, .slice CA1 M.length Cc1, .int .i64 fz, .bool fo] 30)).cell? ⟨w16.heap.size, 2, none⟩ = some (.int .i64 fz)) := Lib.hid (by rw [cell_of_row _ _ _ _ _ _ (heap_alloc_new w16 _)]; rfl)
  have J3_17 : Hid ((w16.alloc (.cells #[.slice CA0 D.length Cc0, .slice CA1 M.length Cc1, .int .i64 fz, .bool fo] 30)).cell? ⟨w16.heap.size, 3, none⟩ = some (.bool fo)) := Lib.hid (by rw [cell_of_row _ _ _ _ _ _ (heap_alloc_new w16 _)]; rfl)
  have qF0 := F0_17.out
  have qF1 := F1_17.out
  have qF2 := F2_17.out
  have qF3 := F3_17.out
  have qQ0 := Q0_17.out
  have qQ1 := Q1_17.out
  have qQ2 := Q2_17.out
  have qQ3 := Q3_17.out
  have qK0 := K0_17.out
  have qK1 := K1_17.out
  have qK2 := K2_17.out
  have qK3 := K3_17.out
  have qS0 := S0_17.out
  have qS1 := S1_17.out
  have qS2 := S2_17.out
  have qS3 := S3_17.out
  have qJ0 := J0_17.out
  have qJ1 := J1_17.out
  have qJ2 := J2_17.out
  have qJ3 := J3_17.out
  go_wp2_with fail
  clear qF0 qF1 qF2 qF3 qQ0 qQ1 qQ2 qQ3 qK0 qK1 qK2 qK3 qS0 qS1 qS2 qS3 qJ0 qJ1 qJ2 qJ3
  generalize (w16.alloc (.cells #[.slice CA0 D.length Cc0, .slice CA1 M.length Cc1, .int .i64 fz, .bool fo] 30)) = w17 at *
  refine (eqDisk_any (OC0_17.out.rit ID.out) (OC1_17.out.riu IM.out) (OZ0_17.out.rit ID.out) (OZ1_17.out.riu IM.out) (Nat.le_refl _)).mono ?_
  rintro e w18 ⟨rfl, g⟩
  have G18 := Lib.hid g; have SZ18 : Hid (w17.heap.size ≤ w18.heap.size) := Lib.hid g.size; clear g
  have F0_18 : Hid (w18.cell? ⟨w.heap.size, 0, none⟩ = some (.slice A0 xs0_0.length c0)) := Lib.hid (oldcell G18.out F0_17.out)
  have F1_18 : Hid (w18.cell? ⟨w.heap.size, 1, none⟩ = some (.slice A1 xs0_1.length c1)) := Lib.hid (oldcell G18.out F1_17.out)
  have F2_18 : Hid (w18.cell? ⟨w.heap.size, 2, none⟩ = some (.int .i64 n0_2)) := Lib.hid (oldcell G18.out F2_17.out)
  have F3_18 : Hid (w18.cell? ⟨w.heap.size, 3, none⟩ = some (.bool n0_3)) := Lib.hid (oldcell G18.out F3_17.out)
  have OZ0_18 : Hid (OT w18 w2.heap.size (.slice ZA0 D.length Zc0) D) := Lib.hid (own_bel OZ0_17.out G18.out)
  have OZ1_18 : Hid (OU w18 w2.heap.size (.slice ZA1 M.length Zc1) M) := Lib.hid (own_bel OZ1_17.out G18.out)
  have Q0_18 : Hid (w18.cell? ⟨w3.heap.size, 0, none⟩ = some (.slice ZA0 D.length Zc0)) := Lib.hid (oldcell G18.out Q0_17.out)
  have Q1_18 : Hid (w18.cell? ⟨w3.heap.size, 1, none⟩ = some (.slice ZA1 M.length Zc1)) := Lib.hid (oldcell G18.out Q1_17.out)
  have Q2_18 : Hid (w18.cell? ⟨w3.heap.size, 2, none⟩ = some (.int .i64 fz)) := Lib.hid (oldcell G18.out Q2_17.out)
  have Q3_18 : Hid (w18.cell? ⟨w3.heap.size, 3, none⟩ = some (.bool fo)) := Lib.hid (oldcell G18.out Q3_17.out)
  have K0_18 : Hid (w18.cell? ⟨w5.heap.size, 0, none⟩ = some (.slice VA0 xs0_0.length xs0_0.length)) := Lib.hid (oldcell G18.out K0_17.out)
  have K1_18 : Hid (w18.cell? ⟨w5.heap.size, 1, none⟩ = some (.slice VA1 xs0_1.length xs0_1.length)) := Lib.hid (oldcell G18.out K1_17.out)
  have K2_18 : Hid (w18.cell? ⟨w5.heap.size, 2, none⟩ = some (.int .i64 n0_2)) := Lib.hid (oldcell G18.out K2_17.out)
  have K3_18 : Hid (w18.cell? ⟨w5.heap.size, 3, none⟩ = some (.bool n0_3)) := Lib.hid (oldcell G18.out K3_17.out)
  have S0_18 : Hid (w18.cell? ⟨w7.heap.size, 0, none⟩ = some (.slice YA0 D.length Yc0)) := Lib.hid (oldcell G18.out S0_17.out)
  have S1_18 : Hid (w18.cell? ⟨w7.heap.size, 1, none⟩ = some (.slice YA1 M.length Yc1)) := Lib.hid (oldcell G18.out S1_17.out)
  have S2_18 : Hid (w18.cell? ⟨w7.heap.size, 2, none⟩ = some (.int .i64 fz)) := Lib.hid (oldcell G18.out S2_17.out)
  have S3_18 : Hid (w18.cell? ⟨w7.heap.size, 3, none⟩ = some (.bool fo)) := Lib.hid (oldcell G18.out S3_17.out)
  have OY0_18 : Hid (OT w18 w6.heap.size (.slice YA0 D.length Yc0) (marksT 1 D.length)) := Lib.hid (own_bel OY0_17.out G18.out)
  have OY1_18 : Hid (OU w18 w6.heap.size (.slice YA1 M.length Yc1) (marksU (1 + D.length) M.length)) := Lib.hid (own_bel OY1_17.out G18.out)
  have OC0_18 : Hid (OT w18 w15.heap.size (.slice CA0 D.length Cc0) D) := Lib.hid (own_bel OC0_17.out G18.out)
  have OC1_18 : Hid (OU w18 w15.heap.size (.slice CA1 M.length Cc1) M) := Lib.hid (own_bel OC1_17.out G18.out)
  have J0_18 : Hid (w18.cell? ⟨w16.heap.size, 0, none⟩ = some (.slice CA0 D.length Cc0)) := Lib.hid (oldcell G18.out J0_17.out)
  have J1_18 : Hid (w18.cell? ⟨w16.heap.size, 1, none⟩ = some (.slice CA1 M.length Cc1)) := Lib.hid (oldcell G18.out J1_17.out)
  have J2_18 : Hid (w18.cell? ⟨w16.heap.size, 2, none⟩ = some (.int .i64 fz)) := Lib.hid (oldcell G18.out J2_17.out)
  have J3_18 : Hid (w18.cell? ⟨w16.heap.size, 3, none⟩ = some (.bool fo)) := Lib.hid (oldcell G18.out J3_17.out)
  have HB18 : Hid (Below w.heap.size w w18) := Lib.hid (HB17.out.trans (G18.out.mono HB17.out.size))
  have qF0 := F0_18.out
  have qF1 := F1_18.out
  have qF2 := F2_18.out
  have qF3 := F3_18.out
  have qQ0 := Q0_18.out
  have qQ1 := Q1_18.out
  have qQ2 := Q2_18.out
  have qQ3 := Q3_18.out
  have qK0 := K0_18.out
  have qK1 := K1_18.out
  have qK2 := K2_18.out
  have qK3 := K3_18.out
  have qS0 := S0_18.out
  have qS1 := S1_18.out
  have qS2 := S2_18.out
  have qS3 := S3_18.out
  have qJ0 := J0_18.out
  have qJ1 := J1_18.out
  have qJ2 := J2_18.out
  have qJ3 := J3_18.out
  go_wp2_with fail
  clear qF0 qF1 qF2 qF3 qQ0 qQ1 qQ2 qQ3 qK0 qK1 qK2 qK3 qS0 qS1 qS2 qS3 qJ0 qJ1 qJ2 qJ3
  refine (heldDisk_any 1 OY0_18.out OY1_18.out (by omega) (by have h1 := LD.out; have h2 := LM.out; omega)).mono ?_
  rintro e w19 ⟨rfl, g⟩
  have G19 := Lib.hid g; have SZ19 : Hid (w18.heap.size ≤ w19.heap.size) := Lib.hid g.size; clear g
  have F0_19 : Hid (w19.cell? ⟨w.heap.size, 0, none⟩ = some (.slice A0 xs0_0.length c0)) := Lib.hid (oldcell G19.out F0_18.out)
  have F1_19 : Hid (w19.cell? ⟨w.heap.size, 1, none⟩ = some (.slice A1 xs0_1.length c1)) := Lib.hid (oldcell G19.out F1_18.out)
  have F2_19 : Hid (w19.cell? ⟨w.heap.size, 2, none⟩ = some (.int .i64 n0_2)) := Lib.hid (oldcell G19.out F2_18.out)
  have F3_19 : Hid (w19.cell? ⟨w.heap.size, 3, none⟩ = some (.bool n0_3)) := Lib.hid (oldcell G19.out F3_18.out)
  have OZ0_19 : Hid (OT w19 w2.heap.size (.slice ZA0 D.length Zc0) D) := Lib.hid (own_bel OZ0_18.out G19.out)
  have OZ1_19 : Hid (OU w19 w2.heap.size (.slice ZA1 M.length Zc1) M) := Lib.hid (own_bel OZ1_18.out G19.out)
  have Q0_19 : Hid (w19.cell? ⟨w3.heap.size, 0, none⟩ = some (.slice ZA0 D.length Zc0)) := Lib.hid (oldcell G19.out Q0_18.out)
  have Q1_19 : Hid (w19.cell? ⟨w3.heap.size, 1, none⟩ = some (.slice ZA1 M.length Zc1)) := Lib.hid (oldcell G19.out Q1_18.out)
  have Q2_19 : Hid (w19.cell? ⟨w3.heap.size, 2, none⟩ = some (.int .i64 fz)) := Lib.hid (oldcell G19.out Q2_18.out)
  have Q3_19 : Hid (w19.cell? ⟨w3.heap.size, 3, none⟩ = some (.bool fo)) := Lib.hid (oldcell G19.out Q3_18.out)
  have K0_19 : Hid (w19.cell? ⟨w5.heap.size, 0, none⟩ = some (.slice VA0 xs0_0.length xs0_0.length)) := Lib.hid (oldcell G19.out K0_18.out)
  have K1_19 : Hid (w19.cell? ⟨w5.heap.size, 1, none⟩ = some (.slice VA1 xs0_1.length xs0_1.length)) := Lib.hid (oldcell G19.out K1_18.out)
  have K2_19 : Hid (w19.cell? ⟨w5.heap.size, 2, none⟩ = some (.int .i64 n0_2)) := Lib.hid (oldcell G19.out K2_18.out)
  have K3_19 : Hid (w19.cell? ⟨w5.heap.size, 3, none⟩ = some (.bool n0_3)) := Lib.hid (oldcell G19.out K3_18.out)
  have S0_19 : Hid (w19.cell? ⟨w7.heap.size, 0, none⟩ = some (.slice YA0 D.length Yc0)) := Lib.hid (oldcell G19.out S0_18.out)
  have S1_19 : Hid (w19.cell? ⟨w7.heap.size, 1, none⟩ = some (.slice YA1 M.length Yc1)) := Lib.hid (oldcell G19.out S1_18.out)
  have S2_19 : Hid (w19.cell? ⟨w7.heap.size, 2, none⟩ = some (.int .i64 fz)) := Lib.hid (oldcell G19.out S2_18.out)
  have S3_19 : Hid (w19.cell? ⟨w7.heap.size, 3, none⟩ = some (.bool fo)) := Lib.hid (oldcell G19.out S3_18.out)
  have OY0_19 : Hid (OT w19 w6.heap.size (.slice YA0 D.length Yc0) (marksT 1 D.length)) := Lib.hid (own_bel OY0_18.out G19.out)
  have OY1_19 : Hid (OU w19 w6.heap.size (.slice YA1 M.length Yc1) (marksU (1 + D.length) M.length)) := Lib.hid (own_bel OY1_18.out G19.out)
  have OC0_19 : Hid (OT w19 w15.heap.size (.slice CA0 D.length Cc0) D) := Lib.hid (own_bel OC0_18.out G19.out)
  have OC1_19 : Hid (OU w19 w15.heap.size (.slice CA1 M.length Cc1) M) := Lib.hid (own_bel OC1_18.out G19.out)
  have J0_19 : Hid (w19.cell? ⟨w16.heap.size, 0, none⟩ = some (.slice CA0 D.length Cc0)) := Lib.hid (oldcell G19.out J0_18.out)
  have J1_19 : Hid (w19.cell? ⟨w16.heap.size, 1, none⟩ = some (.slice CA1 M.length Cc1)) := Lib.hid (oldcell G19.out J1_18.out)
  have J2_19 : Hid (w19.cell? ⟨w16.heap.size, 2, none⟩ = some (.int .i64 fz)) := Lib.hid (oldcell G19.out J2_18.out)
  have J3_19 : Hid (w19.cell? ⟨w16.heap.size, 3, none⟩ = some (.bool fo)) := Lib.hid (oldcell G19.out J3_18.out)
  have HB19 : Hid (Below w.heap.size w w19) := Lib.hid (HB18.out.trans (G19.out.mono HB18.out.size))
  have qF0 := F0_19.out
  have qF1 := F1_19.out
  have qF2 := F2_19.out
  have qF3 := F3_19.out
  have qQ0 := Q0_19.out
  have qQ1 := Q1_19.out
  have qQ2 := Q2_19.out
  have qQ3 := Q3_19.out
  have qK0 := K0_19.out
  have qK1 := K1_19.out
  have qK2 := K2_19.out
  have qK3 := K3_19.out
  have qS0 := S0_19.out
  have qS1 := S1_19.out
  have qS2 := S2_19.out
  have qS3 := S3_19.out
  have qJ0 := J0_19.out
  have qJ1 := J1_19.out
  have qJ2 := J2_19.out
  have qJ3 := J3_19.out
  go_wp2_with fail
  clear qF0 qF1 qF2 qF3 qQ0 qQ1 qQ2 qQ3 qK0 qK1 qK2 qK3 qS0 qS1 qS2 qS3 qJ0 qJ1 qJ2 qJ3
  go_ret
  exact ⟨rfl, HB19.out⟩
theorem own : ownKnob Try.prog.godebug = none := by kernel_rfl
theorem laidOut : laidOutB Try.prog = true := by kernel_rfl
set_option maxRecDepth 100000 in
theorem lifted (os : Os) (started : os.Started) (H : Type) (enc : TypeId × Value → H) :
    ReturnsInHanded {} Try.checked os 9 .any (Rows.fnExactBarrierSpec.pre6 enc Try.prog Try.f9 Rows.fnExactBarrierRow.domain false) (Rows.fnExactBarrierSpec.post enc Try.prog Try.f9 false true false false) := by
  refine returnsInHanded_of_change (C := Try.checked) own started (by kernel_rfl) Try.func9
    (ChangeSpec.witness6 (enc := enc) (C := Try.checked) false ⟨#[], #[.agg #[.slice none 0 0, .slice none 0 0, .int .i64 0, .bool false]], []⟩ 8 (by kernel_rfl) (by kernel_rfl) (by kernel_rfl) (by kernel_rfl)) ?_
  intro W base args ds gs before hval0 hW hcnd _
  have hval : ∀ (j : Nat) t v, Try.f9.params[j]? = some t → args[j]? = some v → Value.okWide Try.prog W .any base t v := hval0
  have hW' := hW
  obtain ⟨p, q, hA0, hV, rfl, hfz, hnd⟩ := hW
  have hA : DataW.TrodAll enc Try.prog W 0 (fun _ => true) true Try.f9.params.toList args.toList ds p := hA0
  rw [Try.params9] at hA hval
  obtain ⟨v0, vs0, d0, ds0, p0, q0, hargs, rfl, rfl, h0, r0⟩ := trodAll_cons hA
  obtain ⟨rfl, rfl, rfl⟩ := trodAll_nil r0
  obtain rfl : args = #[v0] := by cases args; simp_all
  obtain ⟨rfl, rfl⟩ := trodVars_none hV
  have k0 := h0
  have lt0 : ∀ x ∈ p0, x.block < W.heap.size := by obtain ⟨m, hm⟩ := k0; exact DataW.trod_lt m _ _ _ hm
  obtain ⟨v0_0, xs0_0, v0_1, xs0_1, n0_2, n0_3, rfl, g0_0, g0_1, g0_2⟩ := open_disk (hval 0 25 v0 rfl rfl) h0
  clear hA0 hval0
  refine (walk W _ _ _ _ _ _ g0_0 g0_1 g0_2).mono fun e W' ⟨he, bel⟩ => ?_
  subst he
  exact ⟨_, rfl, _, _, _, [], _, [], hW', (trodAll_cons_mk (shut_bool Try.underlying4 _) trodAll_mk0), (trodAll_cons_mk (Below.trod laidOut (by kernel_rfl) (of_decide_eq_true (by kernel_rfl)) k0 bel lt0) trodAll_mk0), rfl, bel.frame _, fun h => by cases h⟩
theorem closed : joinedFacts Try.pinned.checked.prog 9 Try.f9 Rows.fnExactBarrierSpec Rows.fnExactBarrierRow = true := by
  unfold joinedFacts
  rw [mayE, lifF, mkP]
  kernel_rfl
theorem over : Rows.fnExactBarrierRow.holds Try.pinned (OpenSpec.ofChange Rows.fnExactBarrierSpec) :=
  OpenClaim.holds_of_wide 9 Try.f9 rfl rfl rfl rfl rfl rfl rfl ⟨rfl, rfl, rfl, rfl, rfl⟩ rfl rfl rfl rfl rfl (by kernel_rfl) Try.func9 closed
    (of_decide_eq_true (by kernel_rfl)) (by unfold Func.isWrapper; rw [if_neg (of_decide_eq_false (by kernel_rfl))]; exact ⟨rfl, rfl⟩)
    (fun os started H enc _ => lifted os started H enc)
theorem proved : Rows.FnExactBarrierSaid := over
end Go.Proofs.Ytpjkeikaonkohaa.fnExactBarrier
