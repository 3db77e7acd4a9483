/- The statement of the law FnExactSamePipeline: whatever the input, the program's function answers as the model's, and the input reads as it did. Its conditions are the given statement's own; nothing is added. -/
import Derived.Test.YtmddgncidgdglaaJf
import Derived.Test.YtmddgncidgdglaaFrmF
import Derived.Test.YtmddgncidgdglaaPlS
import Derived.ProofKit
import Derived.OpenShut
import Derived.ShutString
import Derived.ChangeOld
import Derived.Below
import Derived.Deep.DeepFit
import Derived.Deep.WholeRow
import Derived.Deep.RegionHeld3
namespace Go.Proofs.Ytmddgncidgdglaa.fnExactSamePipeline
open Go.ChangeShapes Go.WideShapes Go.ChangeAt Go.RowKit
open Go.ChangeMaps (open_string shut_string)
set_option linter.unusedVariables false
set_option maxHeartbeats 4000000 in
set_option maxRecDepth 100000 in
theorem walk (w : World) (v0_0 : Value) (xs0_0 : List EFI) (v1_0 : Value) (xs1_0 : List EFI) (h0_0 : RiFI w.heap.size w v0_0 xs0_0) (h1_0 : RiFI w.heap.size w v1_0 xs1_0) :
    Calls Try.prog 12 #[v0_0, v1_0] w (GivesB (.bool true) w) := by
  have H0_0 := Lib.hid h0_0; obtain ⟨A0_0, c0_0, rfl, _⟩ := h0_0
  have H1_0 := Lib.hid h1_0; obtain ⟨A1_0, c1_0, rfl, _⟩ := h1_0
  have HB0 : Hid (Below w.heap.size w w) := Lib.hid (Below.refl _ _)
  go_enter Try.func12, Try.ntmps12
  have LT0 : Hid (True) := Lib.hid (trivial)
  go_wp2_with fail
  refine (szFilters_any (H0_0.out.at (Nat.le_refl _) HB0.out) (Nat.le_refl _) (1048576) (by omega) (by omega)).mono ?_
  rintro e w1 ⟨l0, rfl, hl0, hL0, hp0, g⟩
  have P0 := Lib.hid hp0; have G1 := Lib.hid g; have SZ1 := Lib.hid g.size; clear hp0 g
  have HB1 : Hid (Below w.heap.size w w1) := Lib.hid (HB0.out.trans (G1.out.mono HB0.out.size))
  have LT1 : Hid True := Lib.hid trivial
  by_cases neg0 : l0 < 0
  · skip
    go_wp2_with fail
    go_ret
    exact ⟨rfl, HB1.out⟩
  have SM0 := Lib.hid (P0.out (by omega))
  go_wp2_with fail
  refine (szFilters_any (H1_0.out.at (Nat.le_refl _) HB1.out) (Nat.le_refl _) (l0) (by omega) (by omega)).mono ?_
  rintro e w2 ⟨l1, rfl, hl1, hL1, hp1, g⟩
  have P1 := Lib.hid hp1; have G2 := Lib.hid g; have SZ2 := Lib.hid g.size; clear hp1 g
  have HB2 : Hid (Below w.heap.size w w2) := Lib.hid (HB1.out.trans (G2.out.mono HB1.out.size))
  have LT2 : Hid True := Lib.hid trivial
  by_cases neg1 : l1 < 0
  · skip
    go_wp2_with fail
    go_ret
    exact ⟨rfl, HB2.out⟩
  have SM1 := Lib.hid (P1.out (by omega))
  go_wp2_with fail
  refine (toFilters_rd (H0_0.out.at (Nat.le_refl _) HB2.out) (Nat.le_refl _) SM0.out).mono ?_
  rintro e w3 ⟨SA0_0, rfl, r0_0, g⟩
  have G3 := Lib.hid g; have SZ3 := Lib.hid g.size; clear g
  have S0_0_3 : Hid (RiFI w3.heap.size w3 (.slice SA0_0 xs0_0.length xs0_0.length) xs0_0) := Lib.hid r0_0; clear r0_0
  have HB3 : Hid (Below w.heap.size w w3) := Lib.hid (HB2.out.trans (G3.out.mono HB2.out.size))
  have LT3 : Hid True := Lib.hid trivial
  go_wp2_with fail
  refine (toFilters_rd (H1_0.out.at (Nat.le_refl _) HB3.out) (Nat.le_refl _) SM1.out).mono ?_
  rintro e w4 ⟨SA1_0, rfl, r1_0, g⟩
  have G4 := Lib.hid g; have SZ4 := Lib.hid g.size; clear g
  have S1_0_4 : Hid (RiFI w4.heap.size w4 (.slice SA1_0 xs1_0.length xs1_0.length) xs1_0) := Lib.hid r1_0; clear r1_0
  have HB4 : Hid (Below w.heap.size w w4) := Lib.hid (HB3.out.trans (G4.out.mono HB3.out.size))
  have S0_0_4 : Hid (RiFI w4.heap.size w4 (.slice SA0_0 xs0_0.length xs0_0.length) xs0_0) := Lib.hid (S0_0_3.out.at (Nat.le_refl _) G4.out)
  have LT4 : Hid True := Lib.hid trivial
  go_wp2_with fail
  refine (specSamePipeline_any S0_0_4.out S1_0_4.out (Nat.le_refl _)).mono ?_
  rintro e w5 ⟨rfl, g⟩
  have G5 := Lib.hid g; have SZ5 := Lib.hid g.size; clear g
  have HB5 : Hid (Below w.heap.size w w5) := Lib.hid (HB4.out.trans (G5.out.mono HB4.out.size))
  have S0_0_5 : Hid (RiFI w5.heap.size w5 (.slice SA0_0 xs0_0.length xs0_0.length) xs0_0) := Lib.hid (S0_0_4.out.at (Nat.le_refl _) G5.out)
  have S1_0_5 : Hid (RiFI w5.heap.size w5 (.slice SA1_0 xs1_0.length xs1_0.length) xs1_0) := Lib.hid (S1_0_4.out.at (Nat.le_refl _) G5.out)
  have LT5 : Hid True := Lib.hid trivial
  go_wp2_with fail
  refine (toFilters_rd (H0_0.out.at (Nat.le_refl _) HB5.out) (Nat.le_refl _) SM0.out).mono ?_
  rintro e w6 ⟨XA0_0, rfl, r0_0, g⟩
  have G6 := Lib.hid g; have SZ6 := Lib.hid g.size; clear g
  have X0_0_6 : Hid (RiFI w6.heap.size w6 (.slice XA0_0 xs0_0.length xs0_0.length) xs0_0) := Lib.hid r0_0; clear r0_0
  have HB6 : Hid (Below w.heap.size w w6) := Lib.hid (HB5.out.trans (G6.out.mono HB5.out.size))
  have LT6 : Hid True := Lib.hid trivial
  go_wp2_with fail
  refine (toFilters_rd (H1_0.out.at (Nat.le_refl _) HB6.out) (Nat.le_refl _) SM1.out).mono ?_
  rintro e w7 ⟨XA1_0, rfl, r1_0, g⟩
  have G7 := Lib.hid g; have SZ7 := Lib.hid g.size; clear g
  have X1_0_7 : Hid (RiFI w7.heap.size w7 (.slice XA1_0 xs1_0.length xs1_0.length) xs1_0) := Lib.hid r1_0; clear r1_0
  have HB7 : Hid (Below w.heap.size w w7) := Lib.hid (HB6.out.trans (G7.out.mono HB6.out.size))
  have X0_0_7 : Hid (RiFI w7.heap.size w7 (.slice XA0_0 xs0_0.length xs0_0.length) xs0_0) := Lib.hid (X0_0_6.out.at (Nat.le_refl _) G7.out)
  have LT7 : Hid True := Lib.hid trivial
  go_wp2_with fail
  refine (implSamePipeline_any X0_0_7.out X1_0_7.out (Nat.le_refl _)).mono ?_
  rintro e w8 ⟨rfl, g⟩
  have G8 := Lib.hid g; have SZ8 := Lib.hid g.size; clear g
  have HB8 : Hid (Below w.heap.size w w8) := Lib.hid (HB7.out.trans (G8.out.mono HB7.out.size))
  have X0_0_8 : Hid (RiFI w8.heap.size w8 (.slice XA0_0 xs0_0.length xs0_0.length) xs0_0) := Lib.hid (X0_0_7.out.at (Nat.le_refl _) G8.out)
  have X1_0_8 : Hid (RiFI w8.heap.size w8 (.slice XA1_0 xs1_0.length xs1_0.length) xs1_0) := Lib.hid (X1_0_7.out.at (Nat.le_refl _) G8.out)
  have LT8 : Hid True := Lib.hid trivial
  go_wp2_with fail
  refine (toFilters_rd (H0_0.out.at (Nat.le_refl _) HB8.out) (Nat.le_refl _) SM0.out).mono ?_
  rintro e w9 ⟨EA0_0, rfl, r0_0, g⟩
  have G9 := Lib.hid g; have SZ9 := Lib.hid g.size; clear g
  have E0_0_9 : Hid (RiFI w9.heap.size w9 (.slice EA0_0 xs0_0.length xs0_0.length) xs0_0) := Lib.hid r0_0; clear r0_0
  have HB9 : Hid (Below w.heap.size w w9) := Lib.hid (HB8.out.trans (G9.out.mono HB8.out.size))
  have X0_0_9 : Hid (RiFI w9.heap.size w9 (.slice XA0_0 xs0_0.length xs0_0.length) xs0_0) := Lib.hid (X0_0_8.out.at (Nat.le_refl _) G9.out)
  have X1_0_9 : Hid (RiFI w9.heap.size w9 (.slice XA1_0 xs1_0.length xs1_0.length) xs1_0) := Lib.hid (X1_0_8.out.at (Nat.le_refl _) G9.out)
  have LT9 : Hid True := Lib.hid trivial
  go_wp2_with fail
  refine (eqFilters_any X0_0_9.out E0_0_9.out (Nat.le_refl _)).mono ?_
  rintro e w10 ⟨rfl, g⟩
  have G10 := Lib.hid g; have SZ10 := Lib.hid g.size; clear g
  have HB10 : Hid (Below w.heap.size w w10) := Lib.hid (HB9.out.trans (G10.out.mono HB9.out.size))
  have X0_0_10 : Hid (RiFI w10.heap.size w10 (.slice XA0_0 xs0_0.length xs0_0.length) xs0_0) := Lib.hid (X0_0_9.out.at (Nat.le_refl _) G10.out)
  have X1_0_10 : Hid (RiFI w10.heap.size w10 (.slice XA1_0 xs1_0.length xs1_0.length) xs1_0) := Lib.hid (X1_0_9.out.at (Nat.le_refl _) G10.out)
  have E0_0_10 : Hid (RiFI w10.heap.size w10 (.slice EA0_0 xs0_0.length xs0_0.length) xs0_0) := Lib.hid (E0_0_9.out.at (Nat.le_refl _) G10.out)
  have LT10 : Hid True := Lib.hid trivial
  go_wp2_with fail
  refine (toFilters_rd (H1_0.out.at (Nat.le_refl _) HB10.out) (Nat.le_refl _) SM1.out).mono ?_
  rintro e w11 ⟨EA1_0, rfl, r1_0, g⟩
  have G11 := Lib.hid g; have SZ11 := Lib.hid g.size; clear g
  have E1_0_11 : Hid (RiFI w11.heap.size w11 (.slice EA1_0 xs1_0.length xs1_0.length) xs1_0) := Lib.hid r1_0; clear r1_0
  have HB11 : Hid (Below w.heap.size w w11) := Lib.hid (HB10.out.trans (G11.out.mono HB10.out.size))
  have X0_0_11 : Hid (RiFI w11.heap.size w11 (.slice XA0_0 xs0_0.length xs0_0.length) xs0_0) := Lib.hid (X0_0_10.out.at (Nat.le_refl _) G11.out)
  have X1_0_11 : Hid (RiFI w11.heap.size w11 (.slice XA1_0 xs1_0.length xs1_0.length) xs1_0) := Lib.hid (X1_0_10.out.at (Nat.le_refl _) G11.out)
  have LT11 : Hid True := Lib.hid trivial
  go_wp2_with fail
  refine (eqFilters_any X1_0_11.out E1_0_11.out (Nat.le_refl _)).mono ?_
  rintro e w12 ⟨rfl, g⟩
  have G12 := Lib.hid g; have SZ12 := Lib.hid g.size; clear g
  have HB12 : Hid (Below w.heap.size w w12) := Lib.hid (HB11.out.trans (G12.out.mono HB11.out.size))
  have X0_0_12 : Hid (RiFI w12.heap.size w12 (.slice XA0_0 xs0_0.length xs0_0.length) xs0_0) := Lib.hid (X0_0_11.out.at (Nat.le_refl _) G12.out)
  have X1_0_12 : Hid (RiFI w12.heap.size w12 (.slice XA1_0 xs1_0.length xs1_0.length) xs1_0) := Lib.hid (X1_0_11.out.at (Nat.le_refl _) G12.out)
  have E1_0_12 : Hid (RiFI w12.heap.size w12 (.slice EA1_0 xs1_0.length xs1_0.length) xs1_0) := Lib.hid (E1_0_11.out.at (Nat.le_refl _) G12.out)
  have LT12 : Hid True := Lib.hid trivial
  go_wp2_with fail
  go_ret
  exact ⟨rfl, HB12.out⟩
theorem own : ownKnob Try.prog.godebug = none := by kernel_rfl
theorem laidOut : laidOutB Try.prog = true := by kernel_rfl
set_option maxRecDepth 100000 in
theorem lifted (os : Os) (started : os.Started) (H : Type) (enc : TypeId × Value → H) :
    ReturnsInHanded {} Try.checked os 12 .any (Rows.fnExactSamePipelineSpec.pre6 enc Try.prog Try.f12 Rows.fnExactSamePipelineRow.domain false) (Rows.fnExactSamePipelineSpec.post enc Try.prog Try.f12 false true false false) := by
  refine returnsInHanded_of_change (C := Try.checked) own started (by kernel_rfl) Try.func12
    (ChangeSpec.witness6 (enc := enc) (C := Try.checked) false ⟨#[], #[.slice none 0 0, .slice none 0 0], []⟩ 8 (by kernel_rfl) (by kernel_rfl) (by kernel_rfl) (by kernel_rfl)) ?_
  intro W base args ds gs before hval0 hW hcnd _
  have hval : ∀ (j : Nat) t v, Try.f12.params[j]? = some t → args[j]? = some v → Value.okWide Try.prog W .any base t v := hval0
  have hW' := hW
  obtain ⟨p, q, hA0, hV, rfl, hfz, hnd⟩ := hW
  have hA : DataW.TrodAll enc Try.prog W 0 (fun _ => true) true Try.f12.params.toList args.toList ds p := hA0
  rw [Try.params12] at hA hval
  obtain ⟨v0, vs0, d0, ds0, p0, q0, hargs, rfl, rfl, h0, r0⟩ := trodAll_cons hA
  obtain ⟨v1, vs1, d1, ds1, p1, q1, rfl, rfl, rfl, h1, r1⟩ := trodAll_cons r0
  obtain ⟨rfl, rfl, rfl⟩ := trodAll_nil r1
  obtain rfl : args = #[v0, v1] := by cases args; simp_all
  obtain ⟨rfl, rfl⟩ := trodVars_none hV
  have k0 := h0
  have lt0 : ∀ x ∈ p0, x.block < W.heap.size := by obtain ⟨m, hm⟩ := k0; exact DataW.trod_lt m _ _ _ hm
  obtain ⟨xs0_0, g0_0⟩ := open_filters (hval 0 34 v0 rfl rfl) h0
  have k1 := h1
  have lt1 : ∀ x ∈ p1, x.block < W.heap.size := by obtain ⟨m, hm⟩ := k1; exact DataW.trod_lt m _ _ _ hm
  obtain ⟨xs1_0, g1_0⟩ := open_filters (hval 1 34 v1 rfl rfl) h1
  clear hA0 hval0
  refine (walk W _ _ _ _ g0_0 g1_0).mono fun e W' ⟨he, bel⟩ => ?_
  subst he
  exact ⟨_, rfl, _, _, _, [], _, [], hW', (trodAll_cons_mk (shut_bool Try.underlying4 _) trodAll_mk0), (trodAll_cons_mk (Below.trod laidOut (by kernel_rfl) (of_decide_eq_true (by kernel_rfl)) k0 bel lt0) (trodAll_cons_mk (Below.trod laidOut (by kernel_rfl) (of_decide_eq_true (by kernel_rfl)) k1 bel lt1) trodAll_mk0)), rfl, bel.frame _, fun h => by cases h⟩
theorem closed : joinedFacts Try.pinned.checked.prog 12 Try.f12 Rows.fnExactSamePipelineSpec Rows.fnExactSamePipelineRow = true := by
  unfold joinedFacts
  rw [mayE, lifF, mkP]
  kernel_rfl
theorem over : Rows.fnExactSamePipelineRow.holds Try.pinned (OpenSpec.ofChange Rows.fnExactSamePipelineSpec) :=
  OpenClaim.holds_of_wide 12 Try.f12 rfl rfl rfl rfl rfl rfl rfl ⟨rfl, rfl, rfl, rfl, rfl⟩ rfl rfl rfl rfl rfl (by kernel_rfl) Try.func12 closed
    (of_decide_eq_true (by kernel_rfl)) (by unfold Func.isWrapper; rw [if_neg (of_decide_eq_false (by kernel_rfl))]; exact ⟨rfl, rfl⟩)
    (fun os started H enc _ => lifted os started H enc)
theorem proved : Rows.FnExactSamePipelineSaid := over
end Go.Proofs.Ytmddgncidgdglaa.fnExactSamePipeline
