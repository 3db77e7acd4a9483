/- The statement of the law FnExactChunkOf: whatever the input, the program's function answers as the model's, and the input reads as it did. Its conditions are the given statement's own; nothing is added. -/
import Derived.Test.YtmghbgnalkkppaaJf
import Derived.Test.YtmghbgnalkkppaaJf
import Derived.Test.YtmghbgnalkkppaaFrmI
import Derived.Test.YtmghbgnalkkppaaTlE
import Derived.ProofKit
import Derived.OpenShut
import Derived.ShutString
import Derived.ChangeOld
import Derived.Below
import Derived.Deep.DeepFit
import Derived.Deep.WholeRow
import Derived.Deep.RegionHeld3
namespace Go.Proofs.Ytmghbgnalkkppaa.fnExactChunkOf
open Go.ChangeShapes Go.WideShapes Go.ChangeAt Go.RowKit
open Go.ChangeMaps (open_string shut_string)
set_option linter.unusedVariables false
set_option maxHeartbeats 4000000 in
set_option maxRecDepth 100000 in
theorem walk (w : World) (v0 : Value) (xs0 : List Int) (v1 : Value) (xs1 : List Int) (v2 : Value) (xs2 : List Int) (h0 : Ri w.heap.size w v0 xs0) (h1 : Ri w.heap.size w v1 xs1) (h2 : Ri w.heap.size w v2 xs2) :
    Calls Try.prog 7 #[v0, v1, v2] w (GivesB (.bool true) w) := by
  have H0 := Lib.hid h0
  obtain ⟨A0, c0, rfl, _, hc0, _⟩ := h0
  unfold maxLen at hc0
  have H1 := Lib.hid h1
  obtain ⟨A1, c1, rfl, _, hc1, _⟩ := h1
  unfold maxLen at hc1
  have H2 := Lib.hid h2
  obtain ⟨A2, c2, rfl, _, hc2, _⟩ := h2
  unfold maxLen at hc2
  by_cases big0 : 1048576 < xs0.length
  · have big0' : decide ((1048576 : Int) < (xs0.length : Int)) = true := decide_eq_true (by omega)
    go_enter Try.func7, Try.ntmps7
    go_wp2_with fail
    go_ret
    exact ⟨rfl, Below.refl _ _⟩
  have small0 : decide ((1048576 : Int) < (xs0.length : Int)) = false := decide_eq_false (by omega)
  by_cases big1 : 1048576 < xs1.length
  · have big1' : decide ((1048576 : Int) < (xs1.length : Int)) = true := decide_eq_true (by omega)
    go_enter Try.func7, Try.ntmps7
    go_wp2_with fail
    go_ret
    exact ⟨rfl, Below.refl _ _⟩
  have small1 : decide ((1048576 : Int) < (xs1.length : Int)) = false := decide_eq_false (by omega)
  by_cases big2 : 1048576 < xs2.length
  · have big2' : decide ((1048576 : Int) < (xs2.length : Int)) = true := decide_eq_true (by omega)
    go_enter Try.func7, Try.ntmps7
    go_wp2_with fail
    go_ret
    exact ⟨rfl, Below.refl _ _⟩
  have small2 : decide ((1048576 : Int) < (xs2.length : Int)) = false := decide_eq_false (by omega)
  have HB0 : Hid (Below w.heap.size w w) := Lib.hid (Below.refl _ _)
  go_enter Try.func7, Try.ntmps7
  have LT0 : Hid (True) := Lib.hid (trivial)
  go_wp2_with fail
  refine (toI_rd (H0.out.at (Nat.le_refl _) HB0.out) (Nat.le_refl _) (by omega)).mono ?_
  rintro e w1 ⟨SA0, rfl, r0, g⟩
  have G1 := Lib.hid g; have SZ1 := Lib.hid g.size; clear g
  have S0_1 : Hid (Ri w1.heap.size w1 (.slice SA0 xs0.length xs0.length) xs0) := Lib.hid r0; clear r0
  have HB1 : Hid (Below w.heap.size w w1) := Lib.hid (HB0.out.trans (G1.out.mono HB0.out.size))
  have LT1 : Hid True := Lib.hid trivial
  go_wp2_with fail
  refine (toI_rd (H1.out.at (Nat.le_refl _) HB1.out) (Nat.le_refl _) (by omega)).mono ?_
  rintro e w2 ⟨SA1, rfl, r1, g⟩
  have G2 := Lib.hid g; have SZ2 := Lib.hid g.size; clear g
  have S1_2 : Hid (Ri w2.heap.size w2 (.slice SA1 xs1.length xs1.length) xs1) := Lib.hid r1; clear r1
  have HB2 : Hid (Below w.heap.size w w2) := Lib.hid (HB1.out.trans (G2.out.mono HB1.out.size))
  have S0_2 : Hid (Ri w2.heap.size w2 (.slice SA0 xs0.length xs0.length) xs0) := Lib.hid (S0_1.out.at (Nat.le_refl _) G2.out)
  have LT2 : Hid True := Lib.hid trivial
  go_wp2_with fail
  refine (toI_rd (H2.out.at (Nat.le_refl _) HB2.out) (Nat.le_refl _) (by omega)).mono ?_
  rintro e w3 ⟨SA2, rfl, r2, g⟩
  have G3 := Lib.hid g; have SZ3 := Lib.hid g.size; clear g
  have S2_3 : Hid (Ri w3.heap.size w3 (.slice SA2 xs2.length xs2.length) xs2) := Lib.hid r2; clear r2
  have HB3 : Hid (Below w.heap.size w w3) := Lib.hid (HB2.out.trans (G3.out.mono HB2.out.size))
  have S0_3 : Hid (Ri w3.heap.size w3 (.slice SA0 xs0.length xs0.length) xs0) := Lib.hid (S0_2.out.at (Nat.le_refl _) G3.out)
  have S1_3 : Hid (Ri w3.heap.size w3 (.slice SA1 xs1.length xs1.length) xs1) := Lib.hid (S1_2.out.at (Nat.le_refl _) G3.out)
  have LT3 : Hid True := Lib.hid trivial
  go_wp2_with fail
  refine (specChunkOf_any S0_3.out S1_3.out S2_3.out (Nat.le_refl _)).mono ?_
  rintro e w4 ⟨rfl, g⟩
  have G4 := Lib.hid g; have SZ4 := Lib.hid g.size; clear g
  have HB4 : Hid (Below w.heap.size w w4) := Lib.hid (HB3.out.trans (G4.out.mono HB3.out.size))
  have S0_4 : Hid (Ri w4.heap.size w4 (.slice SA0 xs0.length xs0.length) xs0) := Lib.hid (S0_3.out.at (Nat.le_refl _) G4.out)
  have S1_4 : Hid (Ri w4.heap.size w4 (.slice SA1 xs1.length xs1.length) xs1) := Lib.hid (S1_3.out.at (Nat.le_refl _) G4.out)
  have S2_4 : Hid (Ri w4.heap.size w4 (.slice SA2 xs2.length xs2.length) xs2) := Lib.hid (S2_3.out.at (Nat.le_refl _) G4.out)
  have LT4 : Hid True := Lib.hid trivial
  go_wp2_with fail
  refine (toI_rd (H0.out.at (Nat.le_refl _) HB4.out) (Nat.le_refl _) (by omega)).mono ?_
  rintro e w5 ⟨XA0, rfl, r0, g⟩
  have G5 := Lib.hid g; have SZ5 := Lib.hid g.size; clear g
  have X0_5 : Hid (Ri w5.heap.size w5 (.slice XA0 xs0.length xs0.length) xs0) := Lib.hid r0; clear r0
  have HB5 : Hid (Below w.heap.size w w5) := Lib.hid (HB4.out.trans (G5.out.mono HB4.out.size))
  have LT5 : Hid True := Lib.hid trivial
  go_wp2_with fail
  refine (toI_rd (H1.out.at (Nat.le_refl _) HB5.out) (Nat.le_refl _) (by omega)).mono ?_
  rintro e w6 ⟨XA1, rfl, r1, g⟩
  have G6 := Lib.hid g; have SZ6 := Lib.hid g.size; clear g
  have X1_6 : Hid (Ri w6.heap.size w6 (.slice XA1 xs1.length xs1.length) xs1) := Lib.hid r1; clear r1
  have HB6 : Hid (Below w.heap.size w w6) := Lib.hid (HB5.out.trans (G6.out.mono HB5.out.size))
  have X0_6 : Hid (Ri w6.heap.size w6 (.slice XA0 xs0.length xs0.length) xs0) := Lib.hid (X0_5.out.at (Nat.le_refl _) G6.out)
  have LT6 : Hid True := Lib.hid trivial
  go_wp2_with fail
  refine (toI_rd (H2.out.at (Nat.le_refl _) HB6.out) (Nat.le_refl _) (by omega)).mono ?_
  rintro e w7 ⟨XA2, rfl, r2, g⟩
  have G7 := Lib.hid g; have SZ7 := Lib.hid g.size; clear g
  have X2_7 : Hid (Ri w7.heap.size w7 (.slice XA2 xs2.length xs2.length) xs2) := Lib.hid r2; clear r2
  have HB7 : Hid (Below w.heap.size w w7) := Lib.hid (HB6.out.trans (G7.out.mono HB6.out.size))
  have X0_7 : Hid (Ri w7.heap.size w7 (.slice XA0 xs0.length xs0.length) xs0) := Lib.hid (X0_6.out.at (Nat.le_refl _) G7.out)
  have X1_7 : Hid (Ri w7.heap.size w7 (.slice XA1 xs1.length xs1.length) xs1) := Lib.hid (X1_6.out.at (Nat.le_refl _) G7.out)
  have LT7 : Hid True := Lib.hid trivial
  go_wp2_with fail
  refine (implChunkOf_any X0_7.out X1_7.out X2_7.out (Nat.le_refl _)).mono ?_
  rintro e w8 ⟨rfl, g⟩
  have G8 := Lib.hid g; have SZ8 := Lib.hid g.size; clear g
  have HB8 : Hid (Below w.heap.size w w8) := Lib.hid (HB7.out.trans (G8.out.mono HB7.out.size))
  have X0_8 : Hid (Ri w8.heap.size w8 (.slice XA0 xs0.length xs0.length) xs0) := Lib.hid (X0_7.out.at (Nat.le_refl _) G8.out)
  have X1_8 : Hid (Ri w8.heap.size w8 (.slice XA1 xs1.length xs1.length) xs1) := Lib.hid (X1_7.out.at (Nat.le_refl _) G8.out)
  have X2_8 : Hid (Ri w8.heap.size w8 (.slice XA2 xs2.length xs2.length) xs2) := Lib.hid (X2_7.out.at (Nat.le_refl _) G8.out)
  have LT8 : Hid True := Lib.hid trivial
  go_wp2_with fail
  refine (toI_rd (H0.out.at (Nat.le_refl _) HB8.out) (Nat.le_refl _) (by omega)).mono ?_
  rintro e w9 ⟨EA0, rfl, r0, g⟩
  have G9 := Lib.hid g; have SZ9 := Lib.hid g.size; clear g
  have E0_9 : Hid (Ri w9.heap.size w9 (.slice EA0 xs0.length xs0.length) xs0) := Lib.hid r0; clear r0
  have HB9 : Hid (Below w.heap.size w w9) := Lib.hid (HB8.out.trans (G9.out.mono HB8.out.size))
  have X0_9 : Hid (Ri w9.heap.size w9 (.slice XA0 xs0.length xs0.length) xs0) := Lib.hid (X0_8.out.at (Nat.le_refl _) G9.out)
  have X1_9 : Hid (Ri w9.heap.size w9 (.slice XA1 xs1.length xs1.length) xs1) := Lib.hid (X1_8.out.at (Nat.le_refl _) G9.out)
  have X2_9 : Hid (Ri w9.heap.size w9 (.slice XA2 xs2.length xs2.length) xs2) := Lib.hid (X2_8.out.at (Nat.le_refl _) G9.out)
  have LT9 : Hid True := Lib.hid trivial
  go_wp2_with fail
  refine (eqI_any X0_9.out E0_9.out (Nat.le_refl _)).mono ?_
  rintro e w10 ⟨rfl, g⟩
  have G10 := Lib.hid g; have SZ10 := Lib.hid g.size; clear g
  have HB10 : Hid (Below w.heap.size w w10) := Lib.hid (HB9.out.trans (G10.out.mono HB9.out.size))
  have X0_10 : Hid (Ri w10.heap.size w10 (.slice XA0 xs0.length xs0.length) xs0) := Lib.hid (X0_9.out.at (Nat.le_refl _) G10.out)
  have X1_10 : Hid (Ri w10.heap.size w10 (.slice XA1 xs1.length xs1.length) xs1) := Lib.hid (X1_9.out.at (Nat.le_refl _) G10.out)
  have X2_10 : Hid (Ri w10.heap.size w10 (.slice XA2 xs2.length xs2.length) xs2) := Lib.hid (X2_9.out.at (Nat.le_refl _) G10.out)
  have E0_10 : Hid (Ri w10.heap.size w10 (.slice EA0 xs0.length xs0.length) xs0) := Lib.hid (E0_9.out.at (Nat.le_refl _) G10.out)
  have LT10 : Hid True := Lib.hid trivial
  go_wp2_with fail
  refine (toI_rd (H1.out.at (Nat.le_refl _) HB10.out) (Nat.le_refl _) (by omega)).mono ?_
  rintro e w11 ⟨EA1, rfl, r1, g⟩
  have G11 := Lib.hid g; have SZ11 := Lib.hid g.size; clear g
  have E1_11 : Hid (Ri w11.heap.size w11 (.slice EA1 xs1.length xs1.length) xs1) := Lib.hid r1; clear r1
  have HB11 : Hid (Below w.heap.size w w11) := Lib.hid (HB10.out.trans (G11.out.mono HB10.out.size))
  have X0_11 : Hid (Ri w11.heap.size w11 (.slice XA0 xs0.length xs0.length) xs0) := Lib.hid (X0_10.out.at (Nat.le_refl _) G11.out)
  have X1_11 : Hid (Ri w11.heap.size w11 (.slice XA1 xs1.length xs1.length) xs1) := Lib.hid (X1_10.out.at (Nat.le_refl _) G11.out)
  have X2_11 : Hid (Ri w11.heap.size w11 (.slice XA2 xs2.length xs2.length) xs2) := Lib.hid (X2_10.out.at (Nat.le_refl _) G11.out)
  have LT11 : Hid True := Lib.hid trivial
  go_wp2_with fail
  refine (eqI_any X1_11.out E1_11.out (Nat.le_refl _)).mono ?_
  rintro e w12 ⟨rfl, g⟩
  have G12 := Lib.hid g; have SZ12 := Lib.hid g.size; clear g
  have HB12 : Hid (Below w.heap.size w w12) := Lib.hid (HB11.out.trans (G12.out.mono HB11.out.size))
  have X0_12 : Hid (Ri w12.heap.size w12 (.slice XA0 xs0.length xs0.length) xs0) := Lib.hid (X0_11.out.at (Nat.le_refl _) G12.out)
  have X1_12 : Hid (Ri w12.heap.size w12 (.slice XA1 xs1.length xs1.length) xs1) := Lib.hid (X1_11.out.at (Nat.le_refl _) G12.out)
  have X2_12 : Hid (Ri w12.heap.size w12 (.slice XA2 xs2.length xs2.length) xs2) := Lib.hid (X2_11.out.at (Nat.le_refl _) G12.out)
  have E1_12 : Hid (Ri w12.heap.size w12 (.slice EA1 xs1.length xs1.length) xs1) := Lib.hid (E1_11.out.at (Nat.le_refl _) G12.out)
  have LT12 : Hid True := Lib.hid trivial
  go_wp2_with fail
  refine (toI_rd (H2.out.at (Nat.le_refl _) HB12.out) (Nat.le_refl _) (by omega)).mono ?_
  rintro e w13 ⟨EA2, rfl, r2, g⟩
  have G13 := Lib.hid g; have SZ13 := Lib.hid g.size; clear g
  have E2_13 : Hid (Ri w13.heap.size w13 (.slice EA2 xs2.length xs2.length) xs2) := Lib.hid r2; clear r2
  have HB13 : Hid (Below w.heap.size w w13) := Lib.hid (HB12.out.trans (G13.out.mono HB12.out.size))
  have X0_13 : Hid (Ri w13.heap.size w13 (.slice XA0 xs0.length xs0.length) xs0) := Lib.hid (X0_12.out.at (Nat.le_refl _) G13.out)
  have X1_13 : Hid (Ri w13.heap.size w13 (.slice XA1 xs1.length xs1.length) xs1) := Lib.hid (X1_12.out.at (Nat.le_refl _) G13.out)
  have X2_13 : Hid (Ri w13.heap.size w13 (.slice XA2 xs2.length xs2.length) xs2) := Lib.hid (X2_12.out.at (Nat.le_refl _) G13.out)
  have LT13 : Hid True := Lib.hid trivial
  go_wp2_with fail
  refine (eqI_any X2_13.out E2_13.out (Nat.le_refl _)).mono ?_
  rintro e w14 ⟨rfl, g⟩
  have G14 := Lib.hid g; have SZ14 := Lib.hid g.size; clear g
  have HB14 : Hid (Below w.heap.size w w14) := Lib.hid (HB13.out.trans (G14.out.mono HB13.out.size))
  have X0_14 : Hid (Ri w14.heap.size w14 (.slice XA0 xs0.length xs0.length) xs0) := Lib.hid (X0_13.out.at (Nat.le_refl _) G14.out)
  have X1_14 : Hid (Ri w14.heap.size w14 (.slice XA1 xs1.length xs1.length) xs1) := Lib.hid (X1_13.out.at (Nat.le_refl _) G14.out)
  have X2_14 : Hid (Ri w14.heap.size w14 (.slice XA2 xs2.length xs2.length) xs2) := Lib.hid (X2_13.out.at (Nat.le_refl _) G14.out)
  have E2_14 : Hid (Ri w14.heap.size w14 (.slice EA2 xs2.length xs2.length) xs2) := Lib.hid (E2_13.out.at (Nat.le_refl _) G14.out)
  have LT14 : Hid True := Lib.hid trivial
  go_wp2_with fail
  go_ret
  exact ⟨rfl, HB14.out⟩
theorem own : ownKnob Try.prog.godebug = none := by kernel_rfl
theorem laidOut : laidOutB Try.prog = true := by kernel_rfl
set_option maxRecDepth 100000 in
theorem lifted (os : Os) (started : os.Started) (H : Type) (enc : TypeId × Value → H) :
    ReturnsInHanded {} Try.checked os 7 .any (Rows.fnExactChunkOfSpec.pre6 enc Try.prog Try.f7 Rows.fnExactChunkOfRow.domain false) (Rows.fnExactChunkOfSpec.post enc Try.prog Try.f7 false true false false) := by
  refine returnsInHanded_of_change (C := Try.checked) own started (by kernel_rfl) Try.func7
    (ChangeSpec.witness6 (enc := enc) (C := Try.checked) false ⟨#[], #[.slice none 0 0, .slice none 0 0, .slice none 0 0], []⟩ 8 (by kernel_rfl) (by kernel_rfl) (by kernel_rfl) (by kernel_rfl)) ?_
  intro W base args ds gs before hval0 hW hcnd _
  have hval : ∀ (j : Nat) t v, Try.f7.params[j]? = some t → args[j]? = some v → Value.okWide Try.prog W .any base t v := hval0
  have hW' := hW
  obtain ⟨p, q, hA0, hV, rfl, hfz, hnd⟩ := hW
  have hA : DataW.TrodAll enc Try.prog W 0 (fun _ => true) true Try.f7.params.toList args.toList ds p := hA0
  rw [Try.params7] at hA hval
  obtain ⟨v0, vs0, d0, ds0, p0, q0, hargs, rfl, rfl, h0, r0⟩ := trodAll_cons hA
  obtain ⟨v1, vs1, d1, ds1, p1, q1, rfl, rfl, rfl, h1, r1⟩ := trodAll_cons r0
  obtain ⟨v2, vs2, d2, ds2, p2, q2, rfl, rfl, rfl, h2, r2⟩ := trodAll_cons r1
  obtain ⟨rfl, rfl, rfl⟩ := trodAll_nil r2
  obtain rfl : args = #[v0, v1, v2] := by cases args; simp_all
  obtain ⟨rfl, rfl⟩ := trodVars_none hV
  have k0 := h0
  have lt0 : ∀ x ∈ p0, x.block < W.heap.size := by obtain ⟨m, hm⟩ := k0; exact DataW.trod_lt m _ _ _ hm
  obtain ⟨xs0, g0⟩ := open_i (hval 0 22 v0 rfl rfl) h0
  have k1 := h1
  have lt1 : ∀ x ∈ p1, x.block < W.heap.size := by obtain ⟨m, hm⟩ := k1; exact DataW.trod_lt m _ _ _ hm
  obtain ⟨xs1, g1⟩ := open_i (hval 1 22 v1 rfl rfl) h1
  have k2 := h2
  have lt2 : ∀ x ∈ p2, x.block < W.heap.size := by obtain ⟨m, hm⟩ := k2; exact DataW.trod_lt m _ _ _ hm
  obtain ⟨xs2, g2⟩ := open_i (hval 2 22 v2 rfl rfl) h2
  clear hA0 hval0
  refine (walk W _ _ _ _ _ _ g0 g1 g2).mono fun e W' ⟨he, bel⟩ => ?_
  subst he
  exact ⟨_, rfl, _, _, _, [], _, [], hW', (trodAll_cons_mk (shut_bool Try.underlying4 _) trodAll_mk0), (trodAll_cons_mk (Below.trod laidOut (by kernel_rfl) (of_decide_eq_true (by kernel_rfl)) k0 bel lt0) (trodAll_cons_mk (Below.trod laidOut (by kernel_rfl) (of_decide_eq_true (by kernel_rfl)) k1 bel lt1) (trodAll_cons_mk (Below.trod laidOut (by kernel_rfl) (of_decide_eq_true (by kernel_rfl)) k2 bel lt2) trodAll_mk0))), rfl, bel.frame _, fun h => by cases h⟩
theorem closed : joinedFacts Try.pinned.checked.prog 7 Try.f7 Rows.fnExactChunkOfSpec Rows.fnExactChunkOfRow = true := by
  unfold joinedFacts
  rw [mayE, lifF, mkP]
  kernel_rfl
theorem over : Rows.fnExactChunkOfRow.holds Try.pinned (OpenSpec.ofChange Rows.fnExactChunkOfSpec) :=
  OpenClaim.holds_of_wide 7 Try.f7 rfl rfl rfl rfl rfl rfl rfl ⟨rfl, rfl, rfl, rfl, rfl⟩ rfl rfl rfl rfl rfl (by kernel_rfl) Try.func7 closed
    (of_decide_eq_true (by kernel_rfl)) (by unfold Func.isWrapper; rw [if_neg (of_decide_eq_false (by kernel_rfl))]; exact ⟨rfl, rfl⟩)
    (fun os started H enc _ => lifted os started H enc)
theorem proved : Rows.FnExactChunkOfSaid := over
end Go.Proofs.Ytmghbgnalkkppaa.fnExactChunkOf
