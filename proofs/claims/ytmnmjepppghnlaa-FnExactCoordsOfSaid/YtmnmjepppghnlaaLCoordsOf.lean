/- The statement of the law FnExactCoordsOf: whatever the input, the program's function answers as the model's, and the input reads as it did. Its conditions are the given statement's own; nothing is added. -/
import Derived.Test.YtmnmjepppghnlaaCoI
import Derived.Test.YtmnmjepppghnlaaFrmI
import Derived.ProofKit
import Derived.OpenShut
import Derived.ShutString
import Derived.ChangeOld
import Derived.Below
import Derived.Deep.DeepFit
import Derived.Deep.WholeRow
import Derived.Deep.RegionHeld3
namespace Go.Proofs.Ytmnmjepppghnlaa.fnExactCoordsOf
open Go.ChangeShapes Go.WideShapes Go.ChangeAt Go.RowKit
open Go.ChangeMaps (open_string shut_string)
set_option linter.unusedVariables false
theorem crdA_len (ds : List Int) (i : Int) : (crdA ds i).length ≤ 1048576 := by
  unfold crdA
  by_cases h : CrdOk ds i
  · rw [if_pos h, crds_length]; have := (crdOk_facts h).2.1; omega
  · rw [if_neg h]; simp
theorem crdA_in (ds : List Int) (i : Int) : ∀ x ∈ crdA ds i, InI x := by
  unfold crdA
  by_cases h : CrdOk ds i
  · rw [if_pos h]
    obtain ⟨_, _, h0, _, _, hp⟩ := crdOk_facts h
    intro x hx
    obtain ⟨k, hk, rfl⟩ := List.mem_iff_getElem.1 hx
    rw [crds_at]
    rw [crds_length] at hk
    have hb := crd_bd ds i h0 (fun d hd => (hp d hd).1) k hk
    have := (hp ds[k] (List.getElem_mem hk)).2
    unfold InI
    first | omega | (constructor <;> omega)
  · rw [if_neg h]; intro x hx; simp at hx
theorem toI_oi {B : Nat} {w : World} {v : Value} {xs : List Int} (h : Ri B w v xs) (hB : B ≤ w.heap.size) (hs : xs.length ≤ 1048576) :
    Calls Try.prog 13 #[v] w fun e w' => ∃ A1 : Option Addr, e = .returned (.slice A1 xs.length xs.length) ∧ OI w' w.heap.size (.slice A1 xs.length xs.length) xs ∧ Below w.heap.size w w' :=
  (toI_any h hB hs).mono fun e w' ⟨he, r, _, g⟩ => ⟨_, he, OI.of_row r (Nat.le_refl _) (by unfold maxLen; omega), g⟩
theorem sCoords_is {B : Nat} {w : World} {v : Value} {ds D : List Int} {i : Int} (hD : crdA ds i = D) (h : Ri B w v ds) (hB : B ≤ w.heap.size) (hi : (Lit.int .i64 i).wf = true) : Calls Try.prog 20 #[v, .int .i64 i] w (MadeL D w) := by
  subst hD; exact specCoordsOf_any h hB hi
theorem pCoords_is {B : Nat} {w : World} {v : Value} {ds D : List Int} {i : Int} (hD : crdA ds i = D) (h : Ri B w v ds) (hB : B ≤ w.heap.size) : Calls Try.prog 21 #[v, .int .i64 i] w (MadeL D w) := by
  subst hD; exact implCoordsOf_any h hB
set_option maxHeartbeats 8000000 in
set_option maxRecDepth 100000 in
theorem walk (w : World) (v0 : Value) (xs0 : List Int) (a1 : Int) (h0 : Ri w.heap.size w v0 xs0) (h1 : (Lit.int .i64 a1).wf = true) :
    Calls Try.prog 6 #[v0, .int .i64 a1] w (GivesB (.bool true) w) := by
  have H0 := Lib.hid h0
  obtain ⟨A0, c0, rfl, _, hc0, _⟩ := h0
  unfold maxLen at hc0
  have W1 := Lib.hid h1; clear h1
  by_cases big0 : 1048576 < xs0.length
  · have big0' : decide ((1048576 : Int) < (xs0.length : Int)) = true := decide_eq_true (by omega)
    go_enter Try.func6, Try.ntmps6
    go_wp2_with fail
    go_ret
    exact ⟨rfl, Below.refl _ _⟩
  have small0 : decide ((1048576 : Int) < (xs0.length : Int)) = false := decide_eq_false (by omega)
  have Sd : Hid (xs0.length ≤ 1048576) := Lib.hid (by omega)
  obtain ⟨D, hD⟩ : ∃ D, crdA xs0 a1 = D := ⟨_, rfl⟩
  have HD := Lib.hid hD
  have ID : Hid (∀ x ∈ D, InI x) := Lib.hid (hD ▸ crdA_in xs0 a1)
  have LD : Hid (D.length ≤ 1048576) := Lib.hid (hD ▸ crdA_len xs0 a1)
  clear hD
  have HB0 : Hid (Below w.heap.size w w) := Lib.hid (Below.refl _ _)
  have SZ0 : Hid (w.heap.size ≤ w.heap.size) := Lib.hid (Nat.le_refl _)
  go_enter Try.func6, Try.ntmps6
  go_wp2_with fail
  refine (toI_oi (H0.out.at (Nat.le_refl _) HB0.out) (Nat.le_refl _) Sd.out).mono ?_
  rintro e w1 ⟨TA, rfl, oa, g⟩
  have G1 := Lib.hid g; have SZ1 : Hid (w.heap.size ≤ w1.heap.size) := Lib.hid g.size; clear g
  have HB1 : Hid (Below w.heap.size w w1) := Lib.hid (HB0.out.trans (G1.out.mono HB0.out.size))
  have OT_1 : Hid (OI w1 w.heap.size (.slice TA xs0.length xs0.length) xs0) := Lib.hid oa; clear oa
  have IT := Lib.hid OT_1.out.wi
  go_wp2_with fail
  refine (sCoords_is HD.out (OT_1.out.ri H0.out.inI) (Nat.le_refl _) W1.out).mono ?_
  rintro e w2 ⟨ZA, Zc, rfl, oa, g⟩
  have G2 := Lib.hid g; have SZ2 : Hid (w1.heap.size ≤ w2.heap.size) := Lib.hid g.size; clear g
  have OT_2 : Hid (OI w2 w.heap.size (.slice TA xs0.length xs0.length) xs0) := Lib.hid (OT_1.out.bel G2.out)
  have HB2 : Hid (Below w.heap.size w w2) := Lib.hid (HB1.out.trans (G2.out.mono HB1.out.size))
  have OZ_2 : Hid (OI w2 w1.heap.size (.slice ZA D.length Zc) D) := Lib.hid oa; clear oa
  have IZ := Lib.hid OZ_2.out.wi
  go_wp2_with fail
  refine (toI_oi (H0.out.at (Nat.le_refl _) HB2.out) (Nat.le_refl _) Sd.out).mono ?_
  rintro e w3 ⟨VA, rfl, oa, g⟩
  have G3 := Lib.hid g; have SZ3 : Hid (w2.heap.size ≤ w3.heap.size) := Lib.hid g.size; clear g
  have OZ_3 : Hid (OI w3 w1.heap.size (.slice ZA D.length Zc) D) := Lib.hid (OZ_2.out.bel G3.out)
  have HB3 : Hid (Below w.heap.size w w3) := Lib.hid (HB2.out.trans (G3.out.mono HB2.out.size))
  have OV_3 : Hid (OI w3 w2.heap.size (.slice VA xs0.length xs0.length) xs0) := Lib.hid oa; clear oa
  have IV := Lib.hid OV_3.out.wi
  go_wp2_with fail
  refine (pCoords_is HD.out (OV_3.out.ri H0.out.inI) (Nat.le_refl _)).mono ?_
  rintro e w4 ⟨YA, Yc, rfl, oa, g⟩
  have G4 := Lib.hid g; have SZ4 : Hid (w3.heap.size ≤ w4.heap.size) := Lib.hid g.size; clear g
  have OZ_4 : Hid (OI w4 w1.heap.size (.slice ZA D.length Zc) D) := Lib.hid (OZ_3.out.bel G4.out)
  have OV_4 : Hid (OI w4 w2.heap.size (.slice VA xs0.length xs0.length) xs0) := Lib.hid (OV_3.out.bel G4.out)
  have HB4 : Hid (Below w.heap.size w w4) := Lib.hid (HB3.out.trans (G4.out.mono HB3.out.size))
  have OY_4 : Hid (OI w4 w3.heap.size (.slice YA D.length Yc) D) := Lib.hid oa; clear oa
  have IY := Lib.hid OY_4.out.wi
  go_wp2_with fail
  refine (eqI_any (OY_4.out.ri ID.out) (OZ_4.out.ri ID.out) (Nat.le_refl _)).mono ?_
  rintro e w5 ⟨rfl, g⟩
  have G5 := Lib.hid g; have SZ5 : Hid (w4.heap.size ≤ w5.heap.size) := Lib.hid g.size; clear g
  have OZ_5 : Hid (OI w5 w1.heap.size (.slice ZA D.length Zc) D) := Lib.hid (OZ_4.out.bel G5.out)
  have OV_5 : Hid (OI w5 w2.heap.size (.slice VA xs0.length xs0.length) xs0) := Lib.hid (OV_4.out.bel G5.out)
  have OY_5 : Hid (OI w5 w3.heap.size (.slice YA D.length Yc) D) := Lib.hid (OY_4.out.bel G5.out)
  have HB5 : Hid (Below w.heap.size w w5) := Lib.hid (HB4.out.trans (G5.out.mono HB4.out.size))
  go_wp2_with fail
  refine (toI_oi (H0.out.at (Nat.le_refl _) HB5.out) (Nat.le_refl _) Sd.out).mono ?_
  rintro e w6 ⟨NA, rfl, oa, g⟩
  have G6 := Lib.hid g; have SZ6 : Hid (w5.heap.size ≤ w6.heap.size) := Lib.hid g.size; clear g
  have OZ_6 : Hid (OI w6 w1.heap.size (.slice ZA D.length Zc) D) := Lib.hid (OZ_5.out.bel G6.out)
  have OV_6 : Hid (OI w6 w2.heap.size (.slice VA xs0.length xs0.length) xs0) := Lib.hid (OV_5.out.bel G6.out)
  have OY_6 : Hid (OI w6 w3.heap.size (.slice YA D.length Yc) D) := Lib.hid (OY_5.out.bel G6.out)
  have HB6 : Hid (Below w.heap.size w w6) := Lib.hid (HB5.out.trans (G6.out.mono HB5.out.size))
  have ON_6 : Hid (OI w6 w5.heap.size (.slice NA xs0.length xs0.length) xs0) := Lib.hid oa; clear oa
  have IN := Lib.hid ON_6.out.wi
  go_wp2_with fail
  refine (eqI_any (OV_6.out.ri H0.out.inI) (ON_6.out.ri H0.out.inI) (Nat.le_refl _)).mono ?_
  rintro e w7 ⟨rfl, g⟩
  have G7 := Lib.hid g; have SZ7 : Hid (w6.heap.size ≤ w7.heap.size) := Lib.hid g.size; clear g
  have OZ_7 : Hid (OI w7 w1.heap.size (.slice ZA D.length Zc) D) := Lib.hid (OZ_6.out.bel G7.out)
  have OV_7 : Hid (OI w7 w2.heap.size (.slice VA xs0.length xs0.length) xs0) := Lib.hid (OV_6.out.bel G7.out)
  have OY_7 : Hid (OI w7 w3.heap.size (.slice YA D.length Yc) D) := Lib.hid (OY_6.out.bel G7.out)
  have ON_7 : Hid (OI w7 w5.heap.size (.slice NA xs0.length xs0.length) xs0) := Lib.hid (ON_6.out.bel G7.out)
  have HB7 : Hid (Below w.heap.size w w7) := Lib.hid (HB6.out.trans (G7.out.mono HB6.out.size))
  go_wp2_with fail
  refine (markI_any OV_7.out 1 (by have h2 := Sd.out; omega)).mono ?_
  rintro e w8 ⟨rfl, _, gg⟩
  have Mv8 : Hid (Mv w2.heap.size w3.heap.size w7 w8) := Lib.hid (Mv.grown gg IV.out)
  have SZ8 : Hid (w7.heap.size ≤ w8.heap.size) := Lib.hid Mv8.out.2.2.2.1
  have OZ_8 : Hid (OI w8 w1.heap.size (.slice ZA D.length Zc) D) := Lib.hid (OZ_7.out.mv Mv8.out (fun g hg => by have := IZ.out g hg; have s0 := SZ0.out; have s1 := SZ1.out; have s2 := SZ2.out; have s3 := SZ3.out; have s4 := SZ4.out; have s5 := SZ5.out; have s6 := SZ6.out; have s7 := SZ7.out; have s8 := SZ8.out; omega))
  have OY_8 : Hid (OI w8 w3.heap.size (.slice YA D.length Yc) D) := Lib.hid (OY_7.out.mv Mv8.out (fun g hg => by have := IY.out g hg; have s0 := SZ0.out; have s1 := SZ1.out; have s2 := SZ2.out; have s3 := SZ3.out; have s4 := SZ4.out; have s5 := SZ5.out; have s6 := SZ6.out; have s7 := SZ7.out; have s8 := SZ8.out; omega))
  have HB8 : Hid (Below w.heap.size w w8) := Lib.hid (Mv8.out.below HB7.out (by have s0 := SZ0.out; have s1 := SZ1.out; have s2 := SZ2.out; have s3 := SZ3.out; have s4 := SZ4.out; have s5 := SZ5.out; have s6 := SZ6.out; have s7 := SZ7.out; have s8 := SZ8.out; omega) HB7.out.size)
  have neg1 : ¬ (((1 + xs0.length : Nat) : Int) < 0) := by omega
  go_wp2_with fail
  refine (eqI_any (OY_8.out.ri ID.out) (OZ_8.out.ri ID.out) (Nat.le_refl _)).mono ?_
  rintro e w9 ⟨rfl, g⟩
  have G9 := Lib.hid g; have SZ9 : Hid (w8.heap.size ≤ w9.heap.size) := Lib.hid g.size; clear g
  have OZ_9 : Hid (OI w9 w1.heap.size (.slice ZA D.length Zc) D) := Lib.hid (OZ_8.out.bel G9.out)
  have OY_9 : Hid (OI w9 w3.heap.size (.slice YA D.length Yc) D) := Lib.hid (OY_8.out.bel G9.out)
  have HB9 : Hid (Below w.heap.size w w9) := Lib.hid (HB8.out.trans (G9.out.mono HB8.out.size))
  go_wp2_with fail
  refine (markI_any OY_9.out 1 (by have h1 := LD.out; omega)).mono ?_
  rintro e w10 ⟨rfl, oa, gg⟩
  have Mv10 : Hid (Mv w3.heap.size w4.heap.size w9 w10) := Lib.hid (Mv.grown gg IY.out)
  have SZ10 : Hid (w9.heap.size ≤ w10.heap.size) := Lib.hid Mv10.out.2.2.2.1
  have OZ_10 : Hid (OI w10 w1.heap.size (.slice ZA D.length Zc) D) := Lib.hid (OZ_9.out.mv Mv10.out (fun g hg => by have := IZ.out g hg; have s0 := SZ0.out; have s1 := SZ1.out; have s2 := SZ2.out; have s3 := SZ3.out; have s4 := SZ4.out; have s5 := SZ5.out; have s6 := SZ6.out; have s7 := SZ7.out; have s8 := SZ8.out; have s9 := SZ9.out; have s10 := SZ10.out; omega))
  have HB10 : Hid (Below w.heap.size w w10) := Lib.hid (Mv10.out.below HB9.out (by have s0 := SZ0.out; have s1 := SZ1.out; have s2 := SZ2.out; have s3 := SZ3.out; have s4 := SZ4.out; have s5 := SZ5.out; have s6 := SZ6.out; have s7 := SZ7.out; have s8 := SZ8.out; have s9 := SZ9.out; have s10 := SZ10.out; omega) HB9.out.size)
  have OY_10 : Hid (OI w10 w3.heap.size (.slice YA D.length Yc) (marks 1 D.length)) := Lib.hid oa; clear oa gg
  have neg2 : ¬ (((1 + D.length : Nat) : Int) < 0) := by omega
  go_wp2_with fail
  refine (heldI_any 1 OY_10.out (by have h1 := LD.out; omega)).mono ?_
  rintro e wq ⟨rfl, rfl⟩
  go_wp2_with fail
  refine (toI_oi (H0.out.at (Nat.le_refl _) HB10.out) (Nat.le_refl _) Sd.out).mono ?_
  rintro e w11 ⟨EA, rfl, oa, g⟩
  have G11 := Lib.hid g; have SZ11 : Hid (w10.heap.size ≤ w11.heap.size) := Lib.hid g.size; clear g
  have OZ_11 : Hid (OI w11 w1.heap.size (.slice ZA D.length Zc) D) := Lib.hid (OZ_10.out.bel G11.out)
  have OY_11 : Hid (OI w11 w3.heap.size (.slice YA D.length Yc) (marks 1 D.length)) := Lib.hid (OY_10.out.bel G11.out)
  have HB11 : Hid (Below w.heap.size w w11) := Lib.hid (HB10.out.trans (G11.out.mono HB10.out.size))
  have OE_11 : Hid (OI w11 w10.heap.size (.slice EA xs0.length xs0.length) xs0) := Lib.hid oa; clear oa
  have IE := Lib.hid OE_11.out.wi
  go_wp2_with fail
  refine (pCoords_is HD.out (OE_11.out.ri H0.out.inI) (Nat.le_refl _)).mono ?_
  rintro e w12 ⟨CA, Cc, rfl, oa, g⟩
  have G12 := Lib.hid g; have SZ12 : Hid (w11.heap.size ≤ w12.heap.size) := Lib.hid g.size; clear g
  have OZ_12 : Hid (OI w12 w1.heap.size (.slice ZA D.length Zc) D) := Lib.hid (OZ_11.out.bel G12.out)
  have OY_12 : Hid (OI w12 w3.heap.size (.slice YA D.length Yc) (marks 1 D.length)) := Lib.hid (OY_11.out.bel G12.out)
  have OE_12 : Hid (OI w12 w10.heap.size (.slice EA xs0.length xs0.length) xs0) := Lib.hid (OE_11.out.bel G12.out)
  have HB12 : Hid (Below w.heap.size w w12) := Lib.hid (HB11.out.trans (G12.out.mono HB11.out.size))
  have OC_12 : Hid (OI w12 w11.heap.size (.slice CA D.length Cc) D) := Lib.hid oa; clear oa
  have IC := Lib.hid OC_12.out.wi
  go_wp2_with fail
  refine (eqI_any (OC_12.out.ri ID.out) (OZ_12.out.ri ID.out) (Nat.le_refl _)).mono ?_
  rintro e w13 ⟨rfl, g⟩
  have G13 := Lib.hid g; have SZ13 : Hid (w12.heap.size ≤ w13.heap.size) := Lib.hid g.size; clear g
  have OZ_13 : Hid (OI w13 w1.heap.size (.slice ZA D.length Zc) D) := Lib.hid (OZ_12.out.bel G13.out)
  have OY_13 : Hid (OI w13 w3.heap.size (.slice YA D.length Yc) (marks 1 D.length)) := Lib.hid (OY_12.out.bel G13.out)
  have OC_13 : Hid (OI w13 w11.heap.size (.slice CA D.length Cc) D) := Lib.hid (OC_12.out.bel G13.out)
  have HB13 : Hid (Below w.heap.size w w13) := Lib.hid (HB12.out.trans (G13.out.mono HB12.out.size))
  go_wp2_with fail
  refine (heldI_any 1 OY_13.out (by have h1 := LD.out; omega)).mono ?_
  rintro e wq ⟨rfl, rfl⟩
  go_wp2_with fail
  go_ret
  exact ⟨rfl, HB13.out⟩
theorem own : ownKnob Try.prog.godebug = none := by kernel_rfl
theorem laidOut : laidOutB Try.prog = true := by kernel_rfl
set_option maxRecDepth 100000 in
theorem lifted (os : Os) (started : os.Started) (H : Type) (enc : TypeId × Value → H) :
    ReturnsInHanded {} Try.checked os 6 .any (Rows.fnExactCoordsOfSpec.pre6 enc Try.prog Try.f6 Rows.fnExactCoordsOfRow.domain false) (Rows.fnExactCoordsOfSpec.post enc Try.prog Try.f6 false true false false) := by
  refine returnsInHanded_of_change (C := Try.checked) own started (by kernel_rfl) Try.func6
    (ChangeSpec.witness6 (enc := enc) (C := Try.checked) false ⟨#[], #[.slice none 0 0, .int .i64 0], []⟩ 8 (by kernel_rfl) (by kernel_rfl) (by kernel_rfl) (by kernel_rfl)) ?_
  intro W base args ds gs before hval0 hW hcnd _
  have hval : ∀ (j : Nat) t v, Try.f6.params[j]? = some t → args[j]? = some v → Value.okWide Try.prog W .any base t v := hval0
  have hW' := hW
  obtain ⟨p, q, hA0, hV, rfl, hfz, hnd⟩ := hW
  have hA : DataW.TrodAll enc Try.prog W 0 (fun _ => true) true Try.f6.params.toList args.toList ds p := hA0
  rw [Try.params6] at hA hval
  obtain ⟨v0, vs0, d0, ds0, p0, q0, hargs, rfl, rfl, h0, r0⟩ := trodAll_cons hA
  obtain ⟨v1, vs1, d1, ds1, p1, q1, rfl, rfl, rfl, h1, r1⟩ := trodAll_cons r0
  obtain ⟨rfl, rfl, rfl⟩ := trodAll_nil r1
  obtain rfl : args = #[v0, v1] := by cases args; simp_all
  obtain ⟨rfl, rfl⟩ := trodVars_none hV
  have k0 := h0
  have lt0 : ∀ x ∈ p0, x.block < W.heap.size := by obtain ⟨m, hm⟩ := k0; exact DataW.trod_lt m _ _ _ hm
  obtain ⟨xs0, g0⟩ := open_i (hval 0 22 v0 rfl rfl) h0
  obtain ⟨a1, rfl, rfl, rfl, g1⟩ := open_int Try.underlying2 (hval 1 2 v1 rfl rfl) h1
  clear hA0 hval0
  refine (walk W _ _ _ g0 g1).mono fun e W' ⟨he, bel⟩ => ?_
  subst he
  exact ⟨_, rfl, _, _, _, [], _, [], hW', (trodAll_cons_mk (shut_bool Try.underlying4 _) trodAll_mk0), (trodAll_cons_mk (Below.trod laidOut (by kernel_rfl) (of_decide_eq_true (by kernel_rfl)) k0 bel lt0) (trodAll_cons_mk (shut_int Try.underlying2 g1) trodAll_mk0)), rfl, bel.frame _, fun h => by cases h⟩
theorem over : Rows.fnExactCoordsOfRow.holds Try.pinned (OpenSpec.ofChange Rows.fnExactCoordsOfSpec) :=
  OpenClaim.holds_of_wide 6 Try.f6 rfl rfl rfl rfl rfl rfl rfl ⟨rfl, rfl, rfl, rfl, rfl⟩ rfl rfl rfl rfl rfl (by kernel_rfl) Try.func6 (by kernel_rfl)
    (of_decide_eq_true (by kernel_rfl)) (by unfold Func.isWrapper; rw [if_neg (of_decide_eq_false (by kernel_rfl))]; exact ⟨rfl, rfl⟩)
    (fun os started H enc _ => lifted os started H enc)
theorem proved : Rows.FnExactCoordsOfSaid := over
end Go.Proofs.Ytmnmjepppghnlaa.fnExactCoordsOf
