/- The statement of the law FnExactIndexOf: whatever the input, the program's function answers as the model's, and the input reads as it did. Its conditions are the given statement's own; nothing is added. -/
import Derived.Test.YtmnmjepppghnlaaInt
import Derived.Test.YtmnmjepppghnlaaDimC
import Derived.Test.YtmnmjepppghnlaaIdx
import Derived.Test.YtmnmjepppghnlaaFrmI
import Derived.ProofKit
import Derived.OpenShut
import Derived.ShutString
import Derived.ChangeOld
import Derived.Below
import Derived.Deep.DeepFit
import Derived.Deep.WholeRow
namespace Go.Proofs.Ytmnmjepppghnlaa.fnExactIndexOf
open Go.ChangeShapes Go.WideShapes Go.ChangeAt Go.RowKit
open Go.ChangeMaps (open_string shut_string)
set_option linter.unusedVariables false
set_option maxHeartbeats 1000000 in
set_option maxRecDepth 100000 in
theorem walk (w : World) (v0 : Value) (xs0 : List Int) (v1 : Value) (xs1 : List Int) (h0 : Ri w.heap.size w v0 xs0) (h1 : Ri w.heap.size w v1 xs1) :
    Calls Try.prog 5 #[v0, v1] w (GivesB (.bool true) w) := by
  have H0 := Lib.hid h0
  have I0 := Lib.hid h0.inI
  obtain ⟨A0, c0, rfl, hl0, hc0, _⟩ := h0
  unfold maxLen at hc0
  have H1 := Lib.hid h1
  have I1 := Lib.hid h1.inI
  obtain ⟨A1, c1, rfl, hl1, hc1, _⟩ := h1
  unfold maxLen at hc1
  by_cases big0 : 1048576 < xs0.length
  · have big0' : decide ((1048576 : Int) < (xs0.length : Int)) = true := decide_eq_true (by omega)
    go_enter Try.func5, Try.ntmps5
    go_wp2_with fail
    go_ret
    exact ⟨rfl, Below.refl _ _⟩
  have small0 : decide ((1048576 : Int) < (xs0.length : Int)) = false := decide_eq_false (by omega)
  by_cases big1 : 1048576 < xs1.length
  · have big1' : decide ((1048576 : Int) < (xs1.length : Int)) = true := decide_eq_true (by omega)
    go_enter Try.func5, Try.ntmps5
    go_wp2_with fail
    go_ret
    exact ⟨rfl, Below.refl _ _⟩
  have small1 : decide ((1048576 : Int) < (xs1.length : Int)) = false := decide_eq_false (by omega)
  have HB0 : Hid (Below w.heap.size w w) := Lib.hid (Below.refl _ _)
  go_enter Try.func5, Try.ntmps5
  go_wp2_with fail
  refine (toI_any (H0.out.up HB0.out.size HB0.out) (Nat.le_refl _) (by omega)).mono ?_
  rintro e w1 ⟨rfl, r, z, g⟩
  have G1 := Lib.hid g; have Z1 := Lib.hid z; have S0_1 : Hid (Row w1 w.heap.size xs0) := Lib.hid r
  clear g z r
  have HB1 : Hid (Below w.heap.size w w1) := Lib.hid (HB0.out.trans (G1.out.mono HB0.out.size))
  go_wp2_with fail
  refine (toI_any (H1.out.up HB1.out.size HB1.out) (Nat.le_refl _) (by omega)).mono ?_
  rintro e w2 ⟨rfl, r, z, g⟩
  have G2 := Lib.hid g; have Z2 := Lib.hid z; have S1_2 : Hid (Row w2 w1.heap.size xs1) := Lib.hid r
  clear g z r
  have HB2 : Hid (Below w.heap.size w w2) := Lib.hid (HB1.out.trans (G2.out.mono HB1.out.size))
  have S0_2 : Hid (Row w2 w.heap.size xs0) := Lib.hid (S0_1.out.below G2.out)
  go_wp2_with fail
  refine ((specIndexOf_any (S0_2.out.ri S0_2.out.lt I0.out (by unfold maxLen; omega)) (S1_2.out.ri S1_2.out.lt I1.out (by unfold maxLen; omega)) (Nat.le_refl _))).mono ?_
  rintro e w3 ⟨rfl, g⟩
  have G3 := Lib.hid g
  clear g
  have HB3 : Hid (Below w.heap.size w w3) := Lib.hid (HB2.out.trans (G3.out.mono HB2.out.size))
  have S0_3 : Hid (Row w3 w.heap.size xs0) := Lib.hid (S0_2.out.below G3.out)
  have S1_3 : Hid (Row w3 w1.heap.size xs1) := Lib.hid (S1_2.out.below G3.out)
  go_wp2_with fail
  refine (toI_any (H0.out.up HB3.out.size HB3.out) (Nat.le_refl _) (by omega)).mono ?_
  rintro e w4 ⟨rfl, r, z, g⟩
  have G4 := Lib.hid g; have Z4 := Lib.hid z; have X0_4 : Hid (Row w4 w3.heap.size xs0) := Lib.hid r
  clear g z r
  have HB4 : Hid (Below w.heap.size w w4) := Lib.hid (HB3.out.trans (G4.out.mono HB3.out.size))
  have S0_4 : Hid (Row w4 w.heap.size xs0) := Lib.hid (S0_3.out.below G4.out)
  have S1_4 : Hid (Row w4 w1.heap.size xs1) := Lib.hid (S1_3.out.below G4.out)
  go_wp2_with fail
  refine (toI_any (H1.out.up HB4.out.size HB4.out) (Nat.le_refl _) (by omega)).mono ?_
  rintro e w5 ⟨rfl, r, z, g⟩
  have G5 := Lib.hid g; have Z5 := Lib.hid z; have X1_5 : Hid (Row w5 w4.heap.size xs1) := Lib.hid r
  clear g z r
  have HB5 : Hid (Below w.heap.size w w5) := Lib.hid (HB4.out.trans (G5.out.mono HB4.out.size))
  have S0_5 : Hid (Row w5 w.heap.size xs0) := Lib.hid (S0_4.out.below G5.out)
  have S1_5 : Hid (Row w5 w1.heap.size xs1) := Lib.hid (S1_4.out.below G5.out)
  have X0_5 : Hid (Row w5 w3.heap.size xs0) := Lib.hid (X0_4.out.below G5.out)
  go_wp2_with fail
  refine ((implIndexOf_any (X0_5.out.ri X0_5.out.lt I0.out (by unfold maxLen; omega)) (X1_5.out.ri X1_5.out.lt I1.out (by unfold maxLen; omega)) (Nat.le_refl _))).mono ?_
  rintro e w6 ⟨rfl, g⟩
  have G6 := Lib.hid g
  clear g
  have HB6 : Hid (Below w.heap.size w w6) := Lib.hid (HB5.out.trans (G6.out.mono HB5.out.size))
  have S0_6 : Hid (Row w6 w.heap.size xs0) := Lib.hid (S0_5.out.below G6.out)
  have S1_6 : Hid (Row w6 w1.heap.size xs1) := Lib.hid (S1_5.out.below G6.out)
  have X0_6 : Hid (Row w6 w3.heap.size xs0) := Lib.hid (X0_5.out.below G6.out)
  have X1_6 : Hid (Row w6 w4.heap.size xs1) := Lib.hid (X1_5.out.below G6.out)
  go_wp2_with fail
  refine (toI_any (H0.out.up HB6.out.size HB6.out) (Nat.le_refl _) (by omega)).mono ?_
  rintro e w7 ⟨rfl, r, z, g⟩
  have G7 := Lib.hid g; have Z7 := Lib.hid z; have E0_7 : Hid (Row w7 w6.heap.size xs0) := Lib.hid r
  clear g z r
  have HB7 : Hid (Below w.heap.size w w7) := Lib.hid (HB6.out.trans (G7.out.mono HB6.out.size))
  have S0_7 : Hid (Row w7 w.heap.size xs0) := Lib.hid (S0_6.out.below G7.out)
  have S1_7 : Hid (Row w7 w1.heap.size xs1) := Lib.hid (S1_6.out.below G7.out)
  have X0_7 : Hid (Row w7 w3.heap.size xs0) := Lib.hid (X0_6.out.below G7.out)
  have X1_7 : Hid (Row w7 w4.heap.size xs1) := Lib.hid (X1_6.out.below G7.out)
  go_wp2_with fail
  refine ((eqI_any (X0_7.out.ri X0_7.out.lt I0.out (by unfold maxLen; omega)) (E0_7.out.ri E0_7.out.lt I0.out (by unfold maxLen; omega)) (Nat.le_refl _))).mono ?_
  rintro e w8 ⟨rfl, g⟩
  have G8 := Lib.hid g
  clear g
  have HB8 : Hid (Below w.heap.size w w8) := Lib.hid (HB7.out.trans (G8.out.mono HB7.out.size))
  have S0_8 : Hid (Row w8 w.heap.size xs0) := Lib.hid (S0_7.out.below G8.out)
  have S1_8 : Hid (Row w8 w1.heap.size xs1) := Lib.hid (S1_7.out.below G8.out)
  have X0_8 : Hid (Row w8 w3.heap.size xs0) := Lib.hid (X0_7.out.below G8.out)
  have X1_8 : Hid (Row w8 w4.heap.size xs1) := Lib.hid (X1_7.out.below G8.out)
  have E0_8 : Hid (Row w8 w6.heap.size xs0) := Lib.hid (E0_7.out.below G8.out)
  go_wp2_with fail
  refine (toI_any (H1.out.up HB8.out.size HB8.out) (Nat.le_refl _) (by omega)).mono ?_
  rintro e w9 ⟨rfl, r, z, g⟩
  have G9 := Lib.hid g; have Z9 := Lib.hid z; have E1_9 : Hid (Row w9 w8.heap.size xs1) := Lib.hid r
  clear g z r
  have HB9 : Hid (Below w.heap.size w w9) := Lib.hid (HB8.out.trans (G9.out.mono HB8.out.size))
  have S0_9 : Hid (Row w9 w.heap.size xs0) := Lib.hid (S0_8.out.below G9.out)
  have S1_9 : Hid (Row w9 w1.heap.size xs1) := Lib.hid (S1_8.out.below G9.out)
  have X0_9 : Hid (Row w9 w3.heap.size xs0) := Lib.hid (X0_8.out.below G9.out)
  have X1_9 : Hid (Row w9 w4.heap.size xs1) := Lib.hid (X1_8.out.below G9.out)
  have E0_9 : Hid (Row w9 w6.heap.size xs0) := Lib.hid (E0_8.out.below G9.out)
  go_wp2_with fail
  refine ((eqI_any (X1_9.out.ri X1_9.out.lt I1.out (by unfold maxLen; omega)) (E1_9.out.ri E1_9.out.lt I1.out (by unfold maxLen; omega)) (Nat.le_refl _))).mono ?_
  rintro e w10 ⟨rfl, g⟩
  have G10 := Lib.hid g
  clear g
  have HB10 : Hid (Below w.heap.size w w10) := Lib.hid (HB9.out.trans (G10.out.mono HB9.out.size))
  have S0_10 : Hid (Row w10 w.heap.size xs0) := Lib.hid (S0_9.out.below G10.out)
  have S1_10 : Hid (Row w10 w1.heap.size xs1) := Lib.hid (S1_9.out.below G10.out)
  have X0_10 : Hid (Row w10 w3.heap.size xs0) := Lib.hid (X0_9.out.below G10.out)
  have X1_10 : Hid (Row w10 w4.heap.size xs1) := Lib.hid (X1_9.out.below G10.out)
  have E0_10 : Hid (Row w10 w6.heap.size xs0) := Lib.hid (E0_9.out.below G10.out)
  have E1_10 : Hid (Row w10 w8.heap.size xs1) := Lib.hid (E1_9.out.below G10.out)
  go_wp2_with fail
  go_ret
  exact ⟨rfl, HB10.out⟩
theorem own : ownKnob Try.prog.godebug = none := by kernel_rfl
theorem laidOut : laidOutB Try.prog = true := by kernel_rfl
set_option maxRecDepth 100000 in
theorem lifted (os : Os) (started : os.Started) (H : Type) (enc : TypeId × Value → H) :
    ReturnsInHanded {} Try.checked os 5 .any (Rows.fnExactIndexOfSpec.pre6 enc Try.prog Try.f5 Rows.fnExactIndexOfRow.domain false) (Rows.fnExactIndexOfSpec.post enc Try.prog Try.f5 false true false false) := by
  refine returnsInHanded_of_change (C := Try.checked) own started (by kernel_rfl) Try.func5
    (ChangeSpec.witness6 (enc := enc) (C := Try.checked) false ⟨#[], #[.slice none 0 0, .slice none 0 0], []⟩ 8 (by kernel_rfl) (by kernel_rfl) (by kernel_rfl) (by kernel_rfl)) ?_
  intro W base args ds gs before hval0 hW hcnd _
  have hval : ∀ (j : Nat) t v, Try.f5.params[j]? = some t → args[j]? = some v → Value.okWide Try.prog W .any base t v := hval0
  have hW' := hW
  obtain ⟨p, q, hA0, hV, rfl, hfz, hnd⟩ := hW
  have hA : DataW.TrodAll enc Try.prog W 0 (fun _ => true) true Try.f5.params.toList args.toList ds p := hA0
  rw [Try.params5] at hA hval
  obtain ⟨v0, vs0, d0, ds0, p0, q0, hargs, rfl, rfl, h0, r0⟩ := trodAll_cons hA
  obtain ⟨v1, vs1, d1, ds1, p1, q1, rfl, rfl, rfl, h1, r1⟩ := trodAll_cons r0
  obtain ⟨rfl, rfl, rfl⟩ := trodAll_nil r1
  obtain rfl : args = #[v0, v1] := by cases args; simp_all
  obtain ⟨rfl, rfl⟩ := trodVars_none hV
  have k0 := h0
  have lt0 : ∀ x ∈ p0, x.block < W.heap.size := by obtain ⟨m, hm⟩ := k0; exact DataW.trod_lt m _ _ _ hm
  obtain ⟨xs0, w0⟩ := open_i (hval 0 22 v0 rfl rfl) h0
  have k1 := h1
  have lt1 : ∀ x ∈ p1, x.block < W.heap.size := by obtain ⟨m, hm⟩ := k1; exact DataW.trod_lt m _ _ _ hm
  obtain ⟨xs1, w1⟩ := open_i (hval 1 22 v1 rfl rfl) h1
  clear hA0 hval0
  refine (walk W _ _ _ _ w0 w1).mono fun e W' ⟨he, bel⟩ => ?_
  subst he
  exact ⟨_, rfl, _, _, _, [], _, [], hW', (trodAll_cons_mk (shut_bool Try.underlying4 _) trodAll_mk0), (trodAll_cons_mk (Below.trod laidOut (by kernel_rfl) (of_decide_eq_true (by kernel_rfl)) k0 bel lt0) (trodAll_cons_mk (Below.trod laidOut (by kernel_rfl) (of_decide_eq_true (by kernel_rfl)) k1 bel lt1) trodAll_mk0)), rfl, bel.frame _, fun h => by cases h⟩
theorem over : Rows.fnExactIndexOfRow.holds Try.pinned (OpenSpec.ofChange Rows.fnExactIndexOfSpec) :=
  OpenClaim.holds_of_wide 5 Try.f5 rfl rfl rfl rfl rfl rfl rfl ⟨rfl, rfl, rfl, rfl, rfl⟩ rfl rfl rfl rfl rfl (by kernel_rfl) Try.func5 (by kernel_rfl)
    (of_decide_eq_true (by kernel_rfl)) (by unfold Func.isWrapper; rw [if_neg (of_decide_eq_false (by kernel_rfl))]; exact ⟨rfl, rfl⟩)
    (fun os started H enc _ => lifted os started H enc)
theorem proved : Rows.FnExactIndexOfSaid := over
end Go.Proofs.Ytmnmjepppghnlaa.fnExactIndexOf
