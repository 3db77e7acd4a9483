/- The statement of the law FnExactDecodePipeline: whatever the input, the program's function answers as the model's, and the input reads as it did. Its conditions are the given statement's own; nothing is added. -/
import Derived.Test.YtmddgncidgdglaaJf
import Derived.Test.YtmddgncidgdglaaDpI
import Derived.Test.YtmddgncidgdglaaMrF
import Derived.ProofKit
import Derived.OpenShut
import Derived.ShutString
import Derived.ChangeOld
import Derived.Below
namespace Go.Proofs.Ytmddgncidgdglaa.fnExactDecodePipeline
open Go.ChangeShapes Go.WideShapes Go.ChangeAt Go.RowKit
open Go.ChangeMaps (open_string shut_string)
set_option linter.unusedVariables false

theorem own : ownKnob Try.prog.godebug = none := by kernel_rfl

theorem mPl_wf : ∀ (n : Nat) (l : List UInt8), (∀ p ∈ mPl n l, InI p.1 ∧ InI p.2.1) ∧ (mPl n l).length ≤ n
  | 0, l => by rw [mPl_zero]; simp
  | n + 1, [] => by rw [show mPl (n + 1) [] = [] from rfl]; simp
  | n + 1, [_] => by rw [show mPl (n + 1) [_] = [] from rfl]; simp
  | n + 1, [_, _] => by rw [show mPl (n + 1) [_, _] = [] from rfl]; simp
  | n + 1, a :: b :: c :: l => by
    have ih := mPl_wf n l
    have ha := a.toNat_lt; have hb := b.toNat_lt
    rw [mPl]
    refine ⟨fun p hp => ?_, by simp; exact ih.2⟩
    rcases List.mem_cons.1 hp with rfl | h
    · unfold InI
      dsimp only
      omega
    · exact ih.1 p h
theorem dpL_wf (s : ByteArray) : (∀ p ∈ dpL s, InI p.1 ∧ InI p.2.1) ∧ (dpL s).length ≤ 5 := by
  unfold dpL mP
  split
  · exact mPl_wf 5 _
  · simp
set_option maxHeartbeats 2000000 in
set_option maxRecDepth 100000 in
theorem walk (a0 : ByteArray) (w0 : a0.size ≤ maxLen) (w : World) :
    Calls Try.prog 14 #[.string a0] w fun e w' => e = .returned (.bool true) ∧ Below w.heap.size w w' := by
  by_cases hs : a0.size ≤ 1048576
  · have C1 := Lib.hid (fun W => specDecodePipeline_any a0 hs W); have C2 := Lib.hid (fun W => implDecodePipeline_any a0 hs W)
    have HWf := Lib.hid (dpL_wf a0).1
    have hl := (dpL_wf a0).2
    generalize dpL a0 = D at *
    generalize dpOk a0 = b at *
    have x2 : (b == b) = true := beq_self_eq_true _
    have x3 : (b != b) = false := by cases b <;> rfl
    have z1 : True := trivial
    have z2 : True := trivial
    have z3 : True := trivial
    have hd1 : decide (((1 + 3 * D.length : Nat) : Int) < 0) = false := decide_eq_false (by omega)
    obtain ⟨m, hm⟩ : ∃ m : Nat, m = 1 + 3 * D.length := ⟨_, rfl⟩
    go_enter Try.func14, Try.ntmps14
    go_wp2_with (first | (go_at_call 43; refine (C1.out _).mono ?_; rintro e w1 ⟨⟨v1, rfl, ho⟩, g⟩; have O1 := Lib.hid ho; have G1 := Lib.hid g; have S1 := Lib.hid g.size; clear ho g) | (go_at_call 44; clear z1; refine (C2.out _).mono ?_; rintro e w2 ⟨⟨v2, rfl, ho⟩, g⟩; have O2 := Lib.hid ho; have O1b := Lib.hid (own_bel O1.out g); have G2 := Lib.hid g; have S2 := Lib.hid g.size; have R2 : Hid (RiFI w2.heap.size w2 v2 D) := Lib.hid (OFI.ri O2.out HWf.out); have R1 : Hid (RiFI w2.heap.size w2 v1 D) := Lib.hid (OFI.ri O1b.out HWf.out); clear ho g) | (go_at_call 44; refine (C2.out _).mono ?_; rintro e w6 ⟨⟨v3, rfl, ho⟩, g⟩; have O6 := Lib.hid ho; have O1f := Lib.hid (own_bel O1e.out g); have G6 := Lib.hid (G5.out.trans (g.mono G5.out.size)); have S6 := Lib.hid g.size; have R3 : Hid (RiFI w6.heap.size w6 v3 D) := Lib.hid (OFI.ri O6.out HWf.out); have R1b : Hid (RiFI w6.heap.size w6 v1 D) := Lib.hid (OFI.ri O1f.out HWf.out); clear ho g) | (go_at_call 38; clear z2; refine (eqFilters_any R2.out R1.out (Nat.le_refl _)).mono ?_; rintro e w3 ⟨rfl, g⟩; have O2c := Lib.hid (own_bel O2.out g); have O1c := Lib.hid (own_bel O1b.out g); have G3 := Lib.hid g; have S3 := Lib.hid g.size; have C4 := Lib.hid (markFI_any (lo := w1.heap.size) (v := v2) (xs := D) O2c.out 1 (Nat.le_refl _) (by omega)); clear g) | (go_at_call 38; refine (eqFilters_any R3.out R1b.out (Nat.le_refl _)).mono ?_; rintro e w7 ⟨rfl, g⟩; have G7 := Lib.hid (G6.out.trans (g.mono G6.out.size)); have S7 := Lib.hid g.size; clear g) | (go_at_call 45; refine C4.out.mono ?_; rintro e w4 ⟨rfl, ho, hgr⟩; have O4 := Lib.hid ho; have G4 : Hid (Below w1.heap.size w3 w4) := Lib.hid ((Below.refl _ w3).grown hgr (by have := S2.out; have := S3.out; omega) (fun k hk => (own_wi O2c.out k hk).1)); have S4 := Lib.hid G4.out.size; have O1d : Hid (OFI w4 w.heap.size v1 D) := Lib.hid (own_same O1c.out (fun q hq => G4.out.block q (by have := (own_wi O1.out q hq).2; omega))); have C5 := Lib.hid (fun W hW => heldFI_any (n := D.length) 1 (own_bel O4.out hW : OFI W w1.heap.size v2 (marksFI 1 D.length)) (Nat.le_refl _) (by omega)); clear ho hgr) | (go_at_call 46; clear z3; refine (C5.out _ (Below.refl _ _)).mono ?_; rintro e w5 ⟨rfl, g⟩; have G5 := Lib.hid g; have S5 := Lib.hid g.size; have O1e := Lib.hid (own_bel O1d.out g); clear g) | (go_at_call 46; refine (C5.out _ G7.out).mono ?_; rintro e w8 ⟨rfl, g⟩; have G8 := Lib.hid (G7.out.trans (g.mono G7.out.size)); clear g))
    go_ret
    exact ⟨rfl, ((G1.out.trans (G2.out.mono S1.out)).trans (G3.out.mono (by have := S1.out; have := S2.out; omega))).trans ((G4.out.mono S1.out).trans (G8.out.mono (by have := S1.out; have := S2.out; have := S3.out; have := S4.out; omega)))⟩
  · go_enter Try.func14, Try.ntmps14
    go_wp2_with fail
    go_ret
    exact ⟨rfl, Below.refl _ _⟩

set_option maxRecDepth 100000 in
theorem lifted (os : Os) (started : os.Started) (H : Type) (enc : TypeId × Value → H) :
    ReturnsInHanded {} Try.checked os 14 .any (Rows.fnExactDecodePipelineSpec.pre6 enc Try.prog Try.f14 Rows.fnExactDecodePipelineRow.domain false) (Rows.fnExactDecodePipelineSpec.post enc Try.prog Try.f14 false true false false) := by
  refine returnsInHanded_of_change (C := Try.checked) own started (by kernel_rfl) Try.func14
    (ChangeSpec.witness6 (enc := enc) (C := Try.checked) false ⟨#[], #[.string ByteArray.empty], []⟩ 8 (by kernel_rfl) (by kernel_rfl) (by kernel_rfl) (by kernel_rfl)) ?_
  intro W base args ds gs before hval0 hW hcnd _
  have hval : ∀ (j : Nat) t v, Try.f14.params[j]? = some t → args[j]? = some v → Value.okWide Try.prog W .any base t v := hval0
  have hW' := hW
  obtain ⟨p, q, hA0, hV, rfl, hfz, hnd⟩ := hW
  have hA : DataW.TrodAll enc Try.prog W 0 (fun _ => true) true Try.f14.params.toList args.toList ds p := hA0
  rw [Try.params14] at hA hval
  obtain ⟨v0, vs0, d0, ds0, p0, q0, hargs, rfl, rfl, h0, r0⟩ := trodAll_cons hA
  obtain ⟨rfl, rfl, rfl⟩ := trodAll_nil r0
  obtain rfl : args = #[v0] := by cases args; simp_all
  obtain ⟨rfl, rfl⟩ := trodVars_none hV
  obtain ⟨a0, rfl, rfl, rfl, w0⟩ := open_string Try.underlying9 (hval 0 9 v0 rfl rfl) h0
  clear hA0 hval0
  refine (walk a0 w0 W).mono fun e W' ⟨he, bel⟩ => ?_
  subst he
  exact ⟨_, rfl, _, _, _, [], _, [], hW', (trodAll_cons_mk (shut_bool Try.underlying4 _) trodAll_mk0), (trodAll_cons_mk (shut_string Try.underlying9 w0) trodAll_mk0), rfl, bel.frame _, fun h => by cases h⟩

theorem closed : joinedFacts Try.pinned.checked.prog 14 Try.f14 Rows.fnExactDecodePipelineSpec Rows.fnExactDecodePipelineRow = true := by
  unfold joinedFacts
  rw [mayE, lifF, mkP]
  kernel_rfl
theorem over : Rows.fnExactDecodePipelineRow.holds Try.pinned (OpenSpec.ofChange Rows.fnExactDecodePipelineSpec) :=
  OpenClaim.holds_of_wide 14 Try.f14 rfl rfl rfl rfl rfl rfl rfl ⟨rfl, rfl, rfl, rfl, rfl⟩ rfl rfl rfl rfl rfl (by kernel_rfl) Try.func14 closed
    (of_decide_eq_true (by kernel_rfl)) (by unfold Func.isWrapper; rw [if_neg (of_decide_eq_false (by kernel_rfl))]; exact ⟨rfl, rfl⟩)
    (fun os started H enc _ => lifted os started H enc)

theorem proved : Rows.FnExactDecodePipelineSaid := over
end Go.Proofs.Ytmddgncidgdglaa.fnExactDecodePipeline
