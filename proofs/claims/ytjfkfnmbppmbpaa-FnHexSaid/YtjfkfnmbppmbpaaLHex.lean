/- The statement of the law FnHex: whatever the input, the program's function answers as the model's, and the input reads as it did. Its conditions are the given statement's own; nothing is added. -/
import Derived.Test.YtjfkfnmbppmbpaaDrawHex
import Derived.ProofKit
import Derived.OpenShut
import Derived.ShutString
import Derived.ChangeOld
import Derived.Below
namespace Go.Proofs.Ytjfkfnmbppmbpaa.fnHex
open Go.ChangeShapes Go.WideShapes Go.ChangeAt Go.RowKit
open Go.ChangeMaps (open_string shut_string)
set_option linter.unusedVariables false

theorem own : ownKnob Try.prog.godebug = none := by kernel_rfl
theorem laidOut : laidOutB Try.prog = true := by kernel_rfl

theorem walk (w : World) (a0 : Option Addr) (len0 cap0 : Nat) (w0 : IsCode w a0 len0 cap0) :
    Calls Try.prog 4 #[.slice a0 len0 cap0] w fun e w' => e = .returned (.bool true) ∧ Below w.heap.size w w' := by
  by_cases hn : len0 ≤ 1048576
  · have H14 := Lib.hid (fun w1 => long_no a0 len0 cap0 hn w1)
    have H24 := Lib.hid (fun w1 (hb : Below w.heap.size w w1) => drawHexText_any a0 len0 cap0 hn w1 ((w0.below hb (Nat.le_refl _)).more hb.size))
    have H27 := Lib.hid (fun w1 (hb : Below w.heap.size w w1) => drawReadHex_any a0 len0 cap0 hn w1 ((w0.below hb (Nat.le_refl _)).more hb.size))
    go_enter Try.func4, Try.ntmps4
    go_wp2_with fail
    refine (H14.out _).mono ?_
    rintro e w1 ⟨rfl, rfl⟩
    go_wp2_with fail
    refine (H24.out _ (Below.refl _ _)).mono ?_
    rintro e w2 ⟨l, rfl, hl, b2⟩
    have hsz : (⟨l.toArray⟩ : ByteArray).size = l.length := by simp [ByteArray.size]
    have hss : (⟨l.toArray⟩ : ByteArray).size ≤ 1000 := by omega
    clear hsz hl
    generalize (⟨l.toArray⟩ : ByteArray) = s at *
    have B2 := Lib.hid b2; clear b2
    go_wp2_with fail
    refine (implHexText_any s (by omega) _).mono ?_
    rintro e w3 ⟨rfl, b3⟩
    have B3 := Lib.hid (B2.out.trans (b3.mono B2.out.size)); clear b3
    obtain ⟨t0, f0, e0, hR0, _⟩ := readHex_both (hexS s) (by rw [hexS_size]; omega)
    rw [rdHex_hexS] at e0
    have ht0 : t0 = s := by
      injection e0 with e0
      have := congrArg (·[0]?) e0
      simp at this; exact this.symm
    have hf0 : f0 = true := by
      injection e0 with e0
      have := congrArg (·[1]?) e0
      simp at this; exact this
    subst ht0; subst hf0
    have HR0 := Lib.hid hR0; clear hR0 e0
    go_wp2_with fail
    refine (HR0.out _).mono ?_
    rintro e w4 ⟨rfl, b4⟩
    have B4 := Lib.hid (B3.out.trans (b4.mono B3.out.size)); clear b4
    go_wp2_with fail
    refine (H27.out _ B4.out).mono ?_
    rintro e w5 ⟨x, rfl, hx, b5⟩
    have B5 := Lib.hid (B4.out.trans (b5.mono B4.out.size)); clear b5
    obtain ⟨y, fine, hf, hR1, _⟩ := readHex_both x hx
    have HR1 := Lib.hid hR1; have Hf := Lib.hid hf; clear hR1 hf
    go_wp2_with fail
    refine (HR1.out _).mono ?_
    rintro e w6 ⟨rfl, b6⟩
    have B6 := Lib.hid (B5.out.trans (b6.mono B5.out.size)); clear b6
    have hrs := revS_size t0
    have Hrs := Lib.hid hrs; clear hrs
    have hfin : ∃ r : Bool, r = true ∧ (fine = true → hexS y = x ∧ y.size ≤ 1048576) := by
      refine ⟨true, rfl, fun h => ?_⟩
      subst h
      have e1 := hexS_rdHex x y Hf.out
      refine ⟨e1, ?_⟩
      have := hexS_size y
      rw [e1] at this; omega
    obtain ⟨_, _, hfin⟩ := hfin
    have Hfin := Lib.hid hfin; clear hfin
    cases fine
    · go_wp2_with fail
      refine (implReverse_any t0 (by omega) _).mono ?_
      rintro e w7 ⟨rfl, b7⟩
      have B7 := Lib.hid (B6.out.trans (b7.mono B6.out.size)); clear b7
      go_wp2_with fail
      refine (implReverse_any (revS t0) (by rw [Hrs.out]; omega) _).mono ?_
      rintro e w8 ⟨rfl, b8⟩
      have B8 := Lib.hid (B7.out.trans (b8.mono B7.out.size)); clear b8
      rw [revS_revS]
      go_wp2_with fail
      go_ret
      exact ⟨rfl, B8.out⟩
    · obtain ⟨hy, hys⟩ := Hfin.out rfl
      have Hy := Lib.hid hy; clear hy
      go_wp2_with fail
      refine (implReverse_any t0 (by omega) _).mono ?_
      rintro e w7 ⟨rfl, b7⟩
      have B7 := Lib.hid (B6.out.trans (b7.mono B6.out.size)); clear b7
      go_wp2_with fail
      refine (implReverse_any (revS t0) (by rw [Hrs.out]; omega) _).mono ?_
      rintro e w8 ⟨rfl, b8⟩
      have B8 := Lib.hid (B7.out.trans (b8.mono B7.out.size)); clear b8
      rw [revS_revS]
      go_wp2_with fail
      refine (implHexText_any y hys _).mono ?_
      rintro e w9 ⟨rfl, b9⟩
      have B9 := Lib.hid (B8.out.trans (b9.mono B8.out.size)); clear b9
      rw [Hy.out]
      go_wp2_with fail
      go_ret
      exact ⟨rfl, B9.out⟩
  · have H14 := Lib.hid (fun w1 => long_yes a0 len0 cap0 hn w1)
    go_enter Try.func4, Try.ntmps4
    go_wp2_with fail
    refine (H14.out _).mono ?_
    rintro e w1 ⟨rfl, rfl⟩
    go_wp2_with fail
    go_ret
    exact ⟨rfl, Below.refl _ _⟩

set_option maxRecDepth 100000 in
theorem lifted (os : Os) (started : os.Started) (H : Type) (enc : TypeId × Value → H) :
    ReturnsInHanded {} Try.checked os 4 .any (Rows.fnHexSpec.pre6 enc Try.prog Try.f4 Rows.fnHexRow.domain false) (Rows.fnHexSpec.post enc Try.prog Try.f4 false true false false) := by
  refine returnsInHanded_of_change (C := Try.checked) own started (by kernel_rfl) Try.func4
    (ChangeSpec.witness6 (enc := enc) (C := Try.checked) false ⟨#[], #[.slice none 0 0], []⟩ 8 (by kernel_rfl) (by kernel_rfl) (by kernel_rfl) (by kernel_rfl)) ?_
  intro W base args ds gs before hval0 hW hcnd _
  have hval : ∀ (j : Nat) t v, Try.f4.params[j]? = some t → args[j]? = some v → Value.okWide Try.prog W .any base t v := hval0
  have hW' := hW
  obtain ⟨p, q, hA0, hV, rfl, hfz, hnd⟩ := hW
  have hA : DataW.TrodAll enc Try.prog W 0 (fun _ => true) true Try.f4.params.toList args.toList ds p := hA0
  rw [Try.params4] at hA hval
  obtain ⟨v0, vs0, d0, ds0, p0, q0, hargs, rfl, rfl, h0, r0⟩ := trodAll_cons hA
  obtain ⟨rfl, rfl, rfl⟩ := trodAll_nil r0
  obtain rfl : args = #[v0] := by cases args; simp_all
  obtain ⟨rfl, rfl⟩ := trodVars_none hV
  obtain ⟨a0, len0, cap0, rfl⟩ := okWide_slice Try.underlying22 (hval 0 22 v0 rfl rfl)
  have k0 := h0
  have lt0 : ∀ x ∈ p0, x.block < W.heap.size := by obtain ⟨m, hm⟩ := k0; exact DataW.trod_lt m _ _ _ hm
  have w0 : IsCode W a0 len0 cap0 := by
    obtain ⟨fuel, hf⟩ := h0
    rcases open_ints Try.underlying22 Try.underlying5 (by kernel_rfl) hf with ⟨hcs, _⟩ | ⟨x, l, c, zs, hcs, _, hl, hm, hz, _, hcell, hwz⟩
    · simp [Value.cells] at hcs
      obtain ⟨rfl, rfl, rfl⟩ := hcs
      exact IsCode.none_ W
    · simp [Value.cells] at hcs
      obtain ⟨rfl, rfl, rfl⟩ := hcs
      exact IsCode.some_ hl hm (by simpa using hz) hcell hwz
  clear hA0 hval0
  refine (walk W a0 len0 cap0 w0).mono fun e W' ⟨he, bel⟩ => ?_
  subst he
  exact ⟨_, rfl, _, _, _, [], _, [], hW', (trodAll_cons_mk (shut_bool Try.underlying4 _) trodAll_mk0), (trodAll_cons_mk (Below.trod laidOut (by kernel_rfl) (of_decide_eq_true (by kernel_rfl)) k0 bel lt0) trodAll_mk0), rfl, bel.frame _, fun h => by cases h⟩

theorem over : Rows.fnHexRow.holds Try.pinned (OpenSpec.ofChange Rows.fnHexSpec) :=
  OpenClaim.holds_of_wide 4 Try.f4 rfl rfl rfl rfl rfl rfl rfl ⟨rfl, rfl, rfl, rfl, rfl⟩ rfl rfl rfl rfl rfl (by kernel_rfl) Try.func4 (by kernel_rfl)
    (of_decide_eq_true (by kernel_rfl)) (by unfold Func.isWrapper; rw [if_neg (of_decide_eq_false (by kernel_rfl))]; exact ⟨rfl, rfl⟩)
    (fun os started H enc _ => lifted os started H enc)

theorem proved : Rows.FnHexSaid := over
end Go.Proofs.Ytjfkfnmbppmbpaa.fnHex
