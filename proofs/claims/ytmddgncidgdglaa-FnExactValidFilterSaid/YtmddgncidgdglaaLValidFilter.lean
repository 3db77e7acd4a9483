/- The statement of the law FnExactValidFilter: whatever the input, the program's function answers as the model's. Its conditions are the given statement's own; nothing is added. -/
import Derived.Test.YtmddgncidgdglaaJf
import Derived.Test.YtmddgncidgdglaaJf
import Derived.Test.YtmddgncidgdglaaFrmF
import Derived.Test.YtmddgncidgdglaaFiV
import Derived.ProofKit
import Derived.OpenShut
import Derived.ShutString
import Derived.ChangeOld
import Derived.Below
import Derived.Deep.DeepFit
import Derived.Deep.WholeRow
import Derived.Deep.RegionHeld3
namespace Go.Proofs.Ytmddgncidgdglaa.fnExactValidFilter
open Go.ChangeShapes Go.WideShapes Go.ChangeAt Go.RowKit
open Go.ChangeMaps (open_string shut_string)
set_option linter.unusedVariables false
set_option maxHeartbeats 4000000 in
set_option maxRecDepth 100000 in
theorem walk (w : World) (n0 n1 : Int) (n2 : Bool) (h0 : InI n0) (h1 : InI n1) :
    Calls Try.prog 3 #[.agg #[.int .i64 n0, .int .i64 n1, .bool n2]] w (GivesB (.bool true) w) := by
  have HB0 : Hid (Below w.heap.size w (w.alloc (.cells #[.int .i64 n0, .int .i64 n1, .bool n2] 23))) := Lib.hid ((Below.refl _ w).alloc (Nat.le_refl _) _)
  have R0 : Hid ((w.alloc (.cells #[.int .i64 n0, .int .i64 n1, .bool n2] 23)).heap[w.heap.size]? = some (.cells #[.int .i64 n0, .int .i64 n1, .bool n2] 23 (0, 0))) := Lib.hid (heap_alloc_new w _)
  have LT0 : Hid (w.heap.size < (w.alloc (.cells #[.int .i64 n0, .int .i64 n1, .bool n2] 23)).heap.size) := Lib.hid (by simp)
  generalize hv : (filOk n0 n1 n2) = V
  go_enter Try.func3, Try.ntmps3
  go_wp2_with fail
  generalize (w.alloc (.cells #[.int .i64 n0, .int .i64 n1, .bool n2] 23)) = w0 at *
  refine (toFilter_any n0 n1 n2 w0).mono ?_
  rintro e w1 ⟨rfl, g⟩
  have HB1 : Hid (Below w.heap.size w w1) := Lib.hid (HB0.out.trans (g.mono HB0.out.size))
  have R1 : Hid (w1.heap[w.heap.size]? = some (.cells #[.int .i64 n0, .int .i64 n1, .bool n2] 23 (0, 0))) := Lib.hid ((g.block _ LT0.out).trans R0.out)
  have LT1 : Hid (w.heap.size < w1.heap.size) := Lib.hid (Nat.lt_of_lt_of_le LT0.out g.size)
  clear g
  go_wp2_with fail
  refine (specValidFilter_any n0 n1 n2 w1 ).mono ?_
  rintro e w2 ⟨rfl, g⟩
  have HB2 : Hid (Below w.heap.size w w2) := Lib.hid (HB1.out.trans (g.mono HB1.out.size))
  have R2 : Hid (w2.heap[w.heap.size]? = some (.cells #[.int .i64 n0, .int .i64 n1, .bool n2] 23 (0, 0))) := Lib.hid ((g.block _ LT1.out).trans R1.out)
  have LT2 : Hid (w.heap.size < w2.heap.size) := Lib.hid (Nat.lt_of_lt_of_le LT1.out g.size)
  clear g
  rw [hv]
  have q0 : w2.cell? ⟨w.heap.size, 0, none⟩ = some (.int .i64 n0) := by rw [cell_of_row _ _ _ _ _ _ R2.out]; rfl
  have q1 : w2.cell? ⟨w.heap.size, 1, none⟩ = some (.int .i64 n1) := by rw [cell_of_row _ _ _ _ _ _ R2.out]; rfl
  have q2 : w2.cell? ⟨w.heap.size, 2, none⟩ = some (.bool n2) := by rw [cell_of_row _ _ _ _ _ _ R2.out]; rfl
  go_wp2_with fail
  clear q0 q1 q2
  refine (toFilter_any n0 n1 n2 w2).mono ?_
  rintro e w3 ⟨rfl, g⟩
  have HB3 : Hid (Below w.heap.size w w3) := Lib.hid (HB2.out.trans (g.mono HB2.out.size))
  have R3 : Hid (w3.heap[w.heap.size]? = some (.cells #[.int .i64 n0, .int .i64 n1, .bool n2] 23 (0, 0))) := Lib.hid ((g.block _ LT2.out).trans R2.out)
  have LT3 : Hid (w.heap.size < w3.heap.size) := Lib.hid (Nat.lt_of_lt_of_le LT2.out g.size)
  clear g
  go_wp2_with fail
  refine (implValidFilter_any n0 n1 n2 w3 ).mono ?_
  rintro e w4 ⟨rfl, g⟩
  have HB4 : Hid (Below w.heap.size w w4) := Lib.hid (HB3.out.trans (g.mono HB3.out.size))
  have R4 : Hid (w4.heap[w.heap.size]? = some (.cells #[.int .i64 n0, .int .i64 n1, .bool n2] 23 (0, 0))) := Lib.hid ((g.block _ LT3.out).trans R3.out)
  have LT4 : Hid (w.heap.size < w4.heap.size) := Lib.hid (Nat.lt_of_lt_of_le LT3.out g.size)
  clear g
  rw [hv]
  have eqv : (V == V) = true := by simp
  go_wp2_with fail
  go_ret
  exact ⟨rfl, HB4.out⟩
theorem own : ownKnob Try.prog.godebug = none := by kernel_rfl
theorem laidOut : laidOutB Try.prog = true := by kernel_rfl
set_option maxRecDepth 100000 in
theorem lifted (os : Os) (started : os.Started) (H : Type) (enc : TypeId × Value → H) :
    ReturnsInHanded {} Try.checked os 3 .any (Rows.fnExactValidFilterSpec.pre6 enc Try.prog Try.f3 Rows.fnExactValidFilterRow.domain false) (Rows.fnExactValidFilterSpec.post enc Try.prog Try.f3 false true false false) := by
  refine returnsInHanded_of_change (C := Try.checked) own started (by kernel_rfl) Try.func3
    (ChangeSpec.witness6 (enc := enc) (C := Try.checked) false ⟨#[], #[.agg #[.int .i64 0, .int .i64 0, .bool false]], []⟩ 8 (by kernel_rfl) (by kernel_rfl) (by kernel_rfl) (by kernel_rfl)) ?_
  intro W base args ds gs before hval0 hW hcnd _
  have hval : ∀ (j : Nat) t v, Try.f3.params[j]? = some t → args[j]? = some v → Value.okWide Try.prog W .any base t v := hval0
  have hW' := hW
  obtain ⟨p, q, hA0, hV, rfl, hfz, hnd⟩ := hW
  have hA : DataW.TrodAll enc Try.prog W 0 (fun _ => true) true Try.f3.params.toList args.toList ds p := hA0
  rw [Try.params3] at hA hval
  obtain ⟨v0, vs0, d0, ds0, p0, q0, hargs, rfl, rfl, h0, r0⟩ := trodAll_cons hA
  obtain ⟨rfl, rfl, rfl⟩ := trodAll_nil r0
  obtain rfl : args = #[v0] := by cases args; simp_all
  obtain ⟨rfl, rfl⟩ := trodVars_none hV
  have k0 := h0
  have lt0 : ∀ x ∈ p0, x.block < W.heap.size := by obtain ⟨m, hm⟩ := k0; exact DataW.trod_lt m _ _ _ hm
  obtain ⟨n0, n1, n2, rfl, g0, g1⟩ := open_filter (hval 0 23 v0 rfl rfl) h0
  clear hA0 hval0
  refine (walk W n0 n1 n2 g0 g1).mono fun e W' ⟨he, bel⟩ => ?_
  subst he
  exact ⟨_, rfl, _, _, _, [], _, [], hW', (trodAll_cons_mk (shut_bool Try.underlying4 _) trodAll_mk0), (trodAll_cons_mk (Below.trod laidOut (by kernel_rfl) (of_decide_eq_true (by kernel_rfl)) k0 bel lt0) trodAll_mk0), rfl, bel.frame _, fun h => by cases h⟩
theorem closed : joinedFacts Try.pinned.checked.prog 3 Try.f3 Rows.fnExactValidFilterSpec Rows.fnExactValidFilterRow = true := by
  unfold joinedFacts
  rw [mayE, lifF, mkP]
  kernel_rfl
theorem over : Rows.fnExactValidFilterRow.holds Try.pinned (OpenSpec.ofChange Rows.fnExactValidFilterSpec) :=
  OpenClaim.holds_of_wide 3 Try.f3 rfl rfl rfl rfl rfl rfl rfl ⟨rfl, rfl, rfl, rfl, rfl⟩ rfl rfl rfl rfl rfl (by kernel_rfl) Try.func3 closed
    (of_decide_eq_true (by kernel_rfl)) (by unfold Func.isWrapper; rw [if_neg (of_decide_eq_false (by kernel_rfl))]; exact ⟨rfl, rfl⟩)
    (fun os started H enc _ => lifted os started H enc)
theorem proved : Rows.FnExactValidFilterSaid := over
end Go.Proofs.Ytmddgncidgdglaa.fnExactValidFilter
