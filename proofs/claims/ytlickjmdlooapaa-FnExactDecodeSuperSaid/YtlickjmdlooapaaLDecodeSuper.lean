/- The statement of the law FnExactDecodeSuper: whatever the input, the program's function answers as the model's, and the input reads as it did. Its conditions are the given statement's own; nothing is added. -/
import Derived.Test.YtlickjmdlooapaaJf
import Derived.Test.YtlickjmdlooapaaDcD
import Derived.Test.YtlickjmdlooapaaSupE
import Derived.ProofKit
import Derived.OpenShut
import Derived.ShutString
import Derived.ChangeOld
import Derived.Below
namespace Go.Proofs.Ytlickjmdlooapaa.fnExactDecodeSuper
open Go.ChangeShapes Go.WideShapes Go.ChangeAt Go.RowKit
open Go.ChangeMaps (open_string shut_string)
set_option linter.unusedVariables false
theorem own : ownKnob Try.prog.godebug = none := by kernel_rfl
set_option maxHeartbeats 8000000 in
set_option maxRecDepth 100000 in
theorem walk (s : ByteArray) (w0 : s.size ≤ maxLen) (w : World) :
    Calls Try.prog 14 #[.string s] w (GivesB (.bool true) w) := by
  unfold maxLen at w0
  by_cases hs : s.size ≤ 1048576
  rotate_left
  · go_enter Try.func14, Try.ntmps14
    go_wp2_with fail
    go_ret
    exact ⟨rfl, Below.refl _ _⟩
  have S0 := Lib.hid (fun W => specDecodeSuper_any s hs W)
  have P0 := Lib.hid (fun W => implDecodeSuper_any s hs W)
  obtain ⟨x0, x1, x2, x3, hA⟩ : ∃ x0 x1 x2 x3 : Int, dcA s = #[.int .i64 x0, .int .i64 x1, .int .i64 x2, .int .i64 x3] := by unfold dcA; split <;> exact ⟨_, _, _, _, rfl⟩
  rw [hA] at S0 P0
  clear hA
  generalize dcY s = y at *
  have HB0 : Hid (Below w.heap.size w w) := Lib.hid (Below.refl _ _)
  go_enter Try.func14, Try.ntmps14
  go_wp2_with fail
  refine (S0.out w).mono ?_
  rintro e w1 ⟨rfl, g⟩
  have HB1 := Lib.hid g; clear g
  have R2 : Hid ((w1.alloc (.cells #[.int .i64 x0, .int .i64 x1, .int .i64 x2, .int .i64 x3] 39)).heap[w1.heap.size]? = some (.cells #[.int .i64 x0, .int .i64 x1, .int .i64 x2, .int .i64 x3] 39 (0, 0))) := Lib.hid (heap_alloc_new w1 _)
  have L2 : Hid (w1.heap.size < (w1.alloc (.cells #[.int .i64 x0, .int .i64 x1, .int .i64 x2, .int .i64 x3] 39)).heap.size) := Lib.hid (by simp)
  have HB2 : Hid (Below w.heap.size w (w1.alloc (.cells #[.int .i64 x0, .int .i64 x1, .int .i64 x2, .int .i64 x3] 39))) := Lib.hid (HB1.out.alloc HB1.out.size _)
  go_wp2_with fail
  generalize (w1.alloc (.cells #[.int .i64 x0, .int .i64 x1, .int .i64 x2, .int .i64 x3] 39)) = w2 at *
  generalize w1.heap.size = b1 at *
  refine (P0.out w2).mono ?_
  rintro e w3 ⟨rfl, g⟩
  have HB3 := Lib.hid (HB2.out.trans (g.mono HB2.out.size))
  have R3 := Lib.hid ((g.block _ L2.out).trans R2.out)
  have L3 : Hid (b1 < w3.heap.size) := Lib.hid (by have := L2.out; have := g.size; omega)
  clear g
  have G4 : Hid (Below w3.heap.size w3 (w3.alloc (.cells #[.int .i64 x0, .int .i64 x1, .int .i64 x2, .int .i64 x3] 39))) := Lib.hid ((Below.refl _ _).alloc (Nat.le_refl _) _)
  have HB4 := Lib.hid (HB3.out.trans (G4.out.mono HB3.out.size))
  have R4 := Lib.hid ((G4.out.block _ L3.out).trans R3.out)
  have S4 : Hid ((w3.alloc (.cells #[.int .i64 x0, .int .i64 x1, .int .i64 x2, .int .i64 x3] 39)).heap[w3.heap.size]? = some (.cells #[.int .i64 x0, .int .i64 x1, .int .i64 x2, .int .i64 x3] 39 (0, 0))) := Lib.hid (heap_alloc_new w3 _)
  have q0 : (w3.alloc (.cells #[.int .i64 x0, .int .i64 x1, .int .i64 x2, .int .i64 x3] 39)).cell? ⟨b1, 0, none⟩ = some (.int .i64 x0) := by rw [cell_of_row _ _ _ _ _ _ R4.out]; rfl
  have r0 : (w3.alloc (.cells #[.int .i64 x0, .int .i64 x1, .int .i64 x2, .int .i64 x3] 39)).cell? ⟨w3.heap.size, 0, none⟩ = some (.int .i64 x0) := by rw [cell_of_row _ _ _ _ _ _ S4.out]; rfl
  have q1 : (w3.alloc (.cells #[.int .i64 x0, .int .i64 x1, .int .i64 x2, .int .i64 x3] 39)).cell? ⟨b1, 1, none⟩ = some (.int .i64 x1) := by rw [cell_of_row _ _ _ _ _ _ R4.out]; rfl
  have r1 : (w3.alloc (.cells #[.int .i64 x0, .int .i64 x1, .int .i64 x2, .int .i64 x3] 39)).cell? ⟨w3.heap.size, 1, none⟩ = some (.int .i64 x1) := by rw [cell_of_row _ _ _ _ _ _ S4.out]; rfl
  have q2 : (w3.alloc (.cells #[.int .i64 x0, .int .i64 x1, .int .i64 x2, .int .i64 x3] 39)).cell? ⟨b1, 2, none⟩ = some (.int .i64 x2) := by rw [cell_of_row _ _ _ _ _ _ R4.out]; rfl
  have r2 : (w3.alloc (.cells #[.int .i64 x0, .int .i64 x1, .int .i64 x2, .int .i64 x3] 39)).cell? ⟨w3.heap.size, 2, none⟩ = some (.int .i64 x2) := by rw [cell_of_row _ _ _ _ _ _ S4.out]; rfl
  have q3 : (w3.alloc (.cells #[.int .i64 x0, .int .i64 x1, .int .i64 x2, .int .i64 x3] 39)).cell? ⟨b1, 3, none⟩ = some (.int .i64 x3) := by rw [cell_of_row _ _ _ _ _ _ R4.out]; rfl
  have r3 : (w3.alloc (.cells #[.int .i64 x0, .int .i64 x1, .int .i64 x2, .int .i64 x3] 39)).cell? ⟨w3.heap.size, 3, none⟩ = some (.int .i64 x3) := by rw [cell_of_row _ _ _ _ _ _ S4.out]; rfl
  go_wp2_with fail
  clear q0 r0 q1 r1 q2 r2 q3 r3
  generalize (w3.alloc (.cells #[.int .i64 x0, .int .i64 x1, .int .i64 x2, .int .i64 x3] 39)) = w4 at *
  refine (eqSuper_any x0 x1 x2 x3 w4).mono ?_
  rintro e w5 ⟨rfl, g⟩
  have HB5 := Lib.hid (HB4.out.trans (g.mono HB4.out.size))
  clear g
  have ey : (y == y) = true := by simp
  go_wp2_with fail
  go_ret
  exact ⟨rfl, HB5.out⟩
set_option maxRecDepth 100000 in
theorem lifted (os : Os) (started : os.Started) (H : Type) (enc : TypeId × Value → H) :
    ReturnsInHanded {} Try.checked os 14 .any (Rows.fnExactDecodeSuperSpec.pre6 enc Try.prog Try.f14 Rows.fnExactDecodeSuperRow.domain false) (Rows.fnExactDecodeSuperSpec.post enc Try.prog Try.f14 false true false false) := by
  refine returnsInHanded_of_change (C := Try.checked) own started (by kernel_rfl) Try.func14
    (ChangeSpec.witness6 (enc := enc) (C := Try.checked) false ⟨#[], #[.string ByteArray.empty], []⟩ 8 (by kernel_rfl) (by kernel_rfl) (by kernel_rfl) (by kernel_rfl)) ?_
  intro W base args ds gs before hval0 hW hcnd _
  have hval : ∀ (j : Nat) t v, Try.f14.params[j]? = some t → args[j]? = some v → Value.okWide Try.prog W .any base t v := hval0
  have hW' := hW
  obtain ⟨p, q, hA0, hV, rfl, hfz, hnd⟩ := hW
  have hA : DataW.TrodAll enc Try.prog W 0 (fun _ => true) true Try.f14.params.toList args.toList ds p := hA0
  rw [Try.params14] at hA hval
  obtain ⟨v0, vs0, d0, ds0, p0, q0, hargs, rfl, rfl, h0, r0⟩ := trodAll_cons hA
  obtain ⟨rfl, rfl, rfl⟩ := trodAll_nil r0
  obtain rfl : args = #[v0] := by cases args; simp_all
  obtain ⟨rfl, rfl⟩ := trodVars_none hV
  obtain ⟨a0, rfl, rfl, rfl, w0⟩ := open_string Try.underlying9 (hval 0 9 v0 rfl rfl) h0
  clear hA0 hval0
  refine (walk a0 w0 W).mono fun e W' ⟨he, bel⟩ => ?_
  subst he
  exact ⟨_, rfl, _, _, _, [], _, [], hW', (trodAll_cons_mk (shut_bool Try.underlying4 _) trodAll_mk0), (trodAll_cons_mk (shut_string Try.underlying9 w0) trodAll_mk0), rfl, bel.frame _, fun h => by cases h⟩

theorem closed : joinedFacts Try.pinned.checked.prog 14 Try.f14 Rows.fnExactDecodeSuperSpec Rows.fnExactDecodeSuperRow = true := by
  unfold joinedFacts
  rw [mayE, lifF, mkP]
  kernel_rfl
theorem over : Rows.fnExactDecodeSuperRow.holds Try.pinned (OpenSpec.ofChange Rows.fnExactDecodeSuperSpec) :=
  OpenClaim.holds_of_wide 14 Try.f14 rfl rfl rfl rfl rfl rfl rfl ⟨rfl, rfl, rfl, rfl, rfl⟩ rfl rfl rfl rfl rfl (by kernel_rfl) Try.func14 closed
    (of_decide_eq_true (by kernel_rfl)) (by unfold Func.isWrapper; rw [if_neg (of_decide_eq_false (by kernel_rfl))]; exact ⟨rfl, rfl⟩)
    (fun os started H enc _ => lifted os started H enc)

theorem proved : Rows.FnExactDecodeSuperSaid := over
end Go.Proofs.Ytlickjmdlooapaa.fnExactDecodeSuper
