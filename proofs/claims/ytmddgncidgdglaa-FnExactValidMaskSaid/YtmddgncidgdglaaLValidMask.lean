/- The statement of the law FnExactValidMask: whatever the input, the program's function answers as the model's, and the input reads as it did. Its conditions are the given statement's own; nothing is added. -/
import Derived.Test.YtmddgncidgdglaaJf
import Derived.Test.YtmddgncidgdglaaFrmF
import Derived.Test.YtmddgncidgdglaaMkI
import Derived.Test.YtmddgncidgdglaaMkS
import Derived.ProofKit
import Derived.OpenShut
import Derived.ShutString
import Derived.ChangeOld
import Derived.Below
import Derived.Deep.DeepFit
import Derived.Deep.WholeRow
import Derived.Deep.RegionHeld3
namespace Go.Proofs.Ytmddgncidgdglaa.fnExactValidMask
open Go.ChangeShapes Go.WideShapes Go.ChangeAt Go.RowKit
open Go.ChangeMaps (open_string shut_string)
set_option linter.unusedVariables false
set_option maxHeartbeats 4000000 in
set_option maxRecDepth 100000 in
theorem walk (w : World) (v0_0 : Value) (xs0_0 : List EFI) (a1 : Int) (h0_0 : RiFI w.heap.size w v0_0 xs0_0) (h1 : (Lit.int .i64 a1).wf = true) :
    Calls Try.prog 15 #[v0_0, .int .i64 a1] w (GivesB (.bool true) w) := by
  have H0_0 := Lib.hid h0_0; obtain ⟨A0_0, c0_0, rfl, _⟩ := h0_0
  have W1 := Lib.hid h1; clear h1
  have HB0 : Hid (Below w.heap.size w w) := Lib.hid (Below.refl _ _)
  go_enter Try.func15, Try.ntmps15
  have LT0 : Hid (True) := Lib.hid (trivial)
  go_wp2_with fail
  refine (szFilters_any (H0_0.out.at (Nat.le_refl _) HB0.out) (Nat.le_refl _) (1048576) (by omega) (by omega)).mono ?_
  rintro e w1 ⟨l0, rfl, hl0, hL0, hp0, g⟩
  have P0 := Lib.hid hp0; have G1 := Lib.hid g; have SZ1 := Lib.hid g.size; clear hp0 g
  have HB1 : Hid (Below w.heap.size w w1) := Lib.hid (HB0.out.trans (G1.out.mono HB0.out.size))
  have LT1 : Hid True := Lib.hid trivial
  by_cases neg0 : l0 < 0
  · skip
    go_wp2_with fail
    go_ret
    exact ⟨rfl, HB1.out⟩
  have SM0 := Lib.hid (P0.out (by omega))
  go_wp2_with fail
  refine (toFilters_rd (H0_0.out.at (Nat.le_refl _) HB1.out) (Nat.le_refl _) SM0.out).mono ?_
  rintro e w2 ⟨SA0_0, rfl, r0_0, g⟩
  have G2 := Lib.hid g; have SZ2 := Lib.hid g.size; clear g
  have S0_0_2 : Hid (RiFI w2.heap.size w2 (.slice SA0_0 xs0_0.length xs0_0.length) xs0_0) := Lib.hid r0_0; clear r0_0
  have HB2 : Hid (Below w.heap.size w w2) := Lib.hid (HB1.out.trans (G2.out.mono HB1.out.size))
  have LT2 : Hid True := Lib.hid trivial
  go_wp2_with fail
  refine (specValidMask_any S0_0_2.out W1.out (Nat.le_refl _)).mono ?_
  rintro e w3 ⟨rfl, g⟩
  have G3 := Lib.hid g; have SZ3 := Lib.hid g.size; clear g
  have HB3 : Hid (Below w.heap.size w w3) := Lib.hid (HB2.out.trans (G3.out.mono HB2.out.size))
  have S0_0_3 : Hid (RiFI w3.heap.size w3 (.slice SA0_0 xs0_0.length xs0_0.length) xs0_0) := Lib.hid (S0_0_2.out.at (Nat.le_refl _) G3.out)
  have LT3 : Hid True := Lib.hid trivial
  go_wp2_with fail
  refine (toFilters_rd (H0_0.out.at (Nat.le_refl _) HB3.out) (Nat.le_refl _) SM0.out).mono ?_
  rintro e w4 ⟨XA0_0, rfl, r0_0, g⟩
  have G4 := Lib.hid g; have SZ4 := Lib.hid g.size; clear g
  have X0_0_4 : Hid (RiFI w4.heap.size w4 (.slice XA0_0 xs0_0.length xs0_0.length) xs0_0) := Lib.hid r0_0; clear r0_0
  have HB4 : Hid (Below w.heap.size w w4) := Lib.hid (HB3.out.trans (G4.out.mono HB3.out.size))
  have LT4 : Hid True := Lib.hid trivial
  go_wp2_with fail
  refine (implValidMask_any X0_0_4.out W1.out (Nat.le_refl _)).mono ?_
  rintro e w5 ⟨rfl, g⟩
  have G5 := Lib.hid g; have SZ5 := Lib.hid g.size; clear g
  have HB5 : Hid (Below w.heap.size w w5) := Lib.hid (HB4.out.trans (G5.out.mono HB4.out.size))
  have X0_0_5 : Hid (RiFI w5.heap.size w5 (.slice XA0_0 xs0_0.length xs0_0.length) xs0_0) := Lib.hid (X0_0_4.out.at (Nat.le_refl _) G5.out)
  have LT5 : Hid True := Lib.hid trivial
  go_wp2_with fail
  refine (toFilters_rd (H0_0.out.at (Nat.le_refl _) HB5.out) (Nat.le_refl _) SM0.out).mono ?_
  rintro e w6 ⟨EA0_0, rfl, r0_0, g⟩
  have G6 := Lib.hid g; have SZ6 := Lib.hid g.size; clear g
  have E0_0_6 : Hid (RiFI w6.heap.size w6 (.slice EA0_0 xs0_0.length xs0_0.length) xs0_0) := Lib.hid r0_0; clear r0_0
  have HB6 : Hid (Below w.heap.size w w6) := Lib.hid (HB5.out.trans (G6.out.mono HB5.out.size))
  have X0_0_6 : Hid (RiFI w6.heap.size w6 (.slice XA0_0 xs0_0.length xs0_0.length) xs0_0) := Lib.hid (X0_0_5.out.at (Nat.le_refl _) G6.out)
  have LT6 : Hid True := Lib.hid trivial
  go_wp2_with fail
  refine (eqFilters_any X0_0_6.out E0_0_6.out (Nat.le_refl _)).mono ?_
  rintro e w7 ⟨rfl, g⟩
  have G7 := Lib.hid g; have SZ7 := Lib.hid g.size; clear g
  have HB7 : Hid (Below w.heap.size w w7) := Lib.hid (HB6.out.trans (G7.out.mono HB6.out.size))
  have X0_0_7 : Hid (RiFI w7.heap.size w7 (.slice XA0_0 xs0_0.length xs0_0.length) xs0_0) := Lib.hid (X0_0_6.out.at (Nat.le_refl _) G7.out)
  have E0_0_7 : Hid (RiFI w7.heap.size w7 (.slice EA0_0 xs0_0.length xs0_0.length) xs0_0) := Lib.hid (E0_0_6.out.at (Nat.le_refl _) G7.out)
  have LT7 : Hid True := Lib.hid trivial
  go_wp2_with fail
  go_ret
  exact ⟨rfl, HB7.out⟩
theorem own : ownKnob Try.prog.godebug = none := by kernel_rfl
theorem laidOut : laidOutB Try.prog = true := by kernel_rfl
set_option maxRecDepth 100000 in
theorem lifted (os : Os) (started : os.Started) (H : Type) (enc : TypeId × Value → H) :
    ReturnsInHanded {} Try.checked os 15 .any (Rows.fnExactValidMaskSpec.pre6 enc Try.prog Try.f15 Rows.fnExactValidMaskRow.domain false) (Rows.fnExactValidMaskSpec.post enc Try.prog Try.f15 false true false false) := by
  refine returnsInHanded_of_change (C := Try.checked) own started (by kernel_rfl) Try.func15
    (ChangeSpec.witness6 (enc := enc) (C := Try.checked) false ⟨#[], #[.slice none 0 0, .int .i64 0], []⟩ 8 (by kernel_rfl) (by kernel_rfl) (by kernel_rfl) (by kernel_rfl)) ?_
  intro W base args ds gs before hval0 hW hcnd _
  have hval : ∀ (j : Nat) t v, Try.f15.params[j]? = some t → args[j]? = some v → Value.okWide Try.prog W .any base t v := hval0
  have hW' := hW
  obtain ⟨p, q, hA0, hV, rfl, hfz, hnd⟩ := hW
  have hA : DataW.TrodAll enc Try.prog W 0 (fun _ => true) true Try.f15.params.toList args.toList ds p := hA0
  rw [Try.params15] at hA hval
  obtain ⟨v0, vs0, d0, ds0, p0, q0, hargs, rfl, rfl, h0, r0⟩ := trodAll_cons hA
  obtain ⟨v1, vs1, d1, ds1, p1, q1, rfl, rfl, rfl, h1, r1⟩ := trodAll_cons r0
  obtain ⟨rfl, rfl, rfl⟩ := trodAll_nil r1
  obtain rfl : args = #[v0, v1] := by cases args; simp_all
  obtain ⟨rfl, rfl⟩ := trodVars_none hV
  have k0 := h0
  have lt0 : ∀ x ∈ p0, x.block < W.heap.size := by obtain ⟨m, hm⟩ := k0; exact DataW.trod_lt m _ _ _ hm
  obtain ⟨xs0_0, g0_0⟩ := open_filters (hval 0 34 v0 rfl rfl) h0
  obtain ⟨a1, rfl, rfl, rfl, g1⟩ := open_int Try.underlying2 (hval 1 2 v1 rfl rfl) h1
  clear hA0 hval0
  refine (walk W _ _ _ g0_0 g1).mono fun e W' ⟨he, bel⟩ => ?_
  subst he
  exact ⟨_, rfl, _, _, _, [], _, [], hW', (trodAll_cons_mk (shut_bool Try.underlying4 _) trodAll_mk0), (trodAll_cons_mk (Below.trod laidOut (by kernel_rfl) (of_decide_eq_true (by kernel_rfl)) k0 bel lt0) (trodAll_cons_mk (shut_int Try.underlying2 g1) trodAll_mk0)), rfl, bel.frame _, fun h => by cases h⟩
theorem closed : joinedFacts Try.pinned.checked.prog 15 Try.f15 Rows.fnExactValidMaskSpec Rows.fnExactValidMaskRow = true := by
  unfold joinedFacts
  rw [mayE, lifF, mkP]
  kernel_rfl
theorem over : Rows.fnExactValidMaskRow.holds Try.pinned (OpenSpec.ofChange Rows.fnExactValidMaskSpec) :=
  OpenClaim.holds_of_wide 15 Try.f15 rfl rfl rfl rfl rfl rfl rfl ⟨rfl, rfl, rfl, rfl, rfl⟩ rfl rfl rfl rfl rfl (by kernel_rfl) Try.func15 closed
    (of_decide_eq_true (by kernel_rfl)) (by unfold Func.isWrapper; rw [if_neg (of_decide_eq_false (by kernel_rfl))]; exact ⟨rfl, rfl⟩)
    (fun os started H enc _ => lifted os started H enc)
theorem proved : Rows.FnExactValidMaskSaid := over
end Go.Proofs.Ytmddgncidgdglaa.fnExactValidMask
