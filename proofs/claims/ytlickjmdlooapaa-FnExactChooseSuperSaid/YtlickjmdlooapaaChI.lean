/- The current superblock of a disk: the program. No statement is proved here. -/
import Derived.Test.YtlickjmdlooapaaSlR
import Derived.Test.YtlickjmdlooapaaDkO
namespace Go.Proofs.Ytlickjmdlooapaa
open Go.RowKit
set_option linter.unusedVariables false
def NormC (R : Act → World → Prop) : Exit → Act → World → Prop
  | .normal, a, w => R a w
  | _, _, _ => False
theorem wp_normC {P : Program} {c : Code} {Q : Exit → Act → World → Prop} {a : Act} {w : World} (R : Act → World → Prop) (h1 : c.wp P (NormC R) a w) (h2 : ∀ a' W, R a' W → Q .normal a' W) : c.wp P Q a w :=
  Code.wp_mono (fun e a' W h => by cases e <;> first | exact h2 _ _ h | exact False.elim h) h1
/-- Two new blocks with these cells, wherever they came to lie. -/
def TwoS (w0 : World) (r6 r7 : Array Value) (A : Nat → Nat → Act) (a : Act) (W : World) : Prop := ∃ b6 b7 : Nat, a = A b6 b7 ∧ W.heap[b6]? = some (.cells r6 178 (0, 0)) ∧ W.heap[b7]? = some (.cells r7 178 (0, 0)) ∧ Below w0.heap.size w0 W
theorem wp_twoS {P : Program} {c : Code} {Q : Exit → Act → World → Prop} {a : Act} {w : World} (w0 : World) (r6 r7 : Array Value) (A : Nat → Nat → Act) (h1 : c.wp P (NormC (TwoS w0 r6 r7 A)) a w) (h2 : ∀ a' W, TwoS w0 r6 r7 A a' W → Q .normal a' W) : c.wp P Q a w := wp_normC _ h1 h2
theorem infoSl (v1 v2 : Value) (fz : Int) (off : Bool) (k : Int) : (Try.prog.info? 178).map (·.size) = some (#[v1, v2, .int .i64 fz, .bool off, .int .i64 k] : Array Value).size := by kernel_rfl
set_option maxHeartbeats 8000000 in
set_option maxRecDepth 100000 in
theorem implChooseSuper_any {B : Nat} {w : World} {v1 v2 : Value} {ss : List ByteArray} {ps : List Pt} {fz : Int} {off : Bool} (h1 : RiT B w v1 ss) (h2 : RiU B w v2 ps) (hB : B ≤ w.heap.size) :
    Calls Try.prog 58 #[.agg #[v1, v2, .int .i64 fz, .bool off]] w (GivesB (.tuple #[.agg (csA ss ps fz), .int .i64 (csC ss ps fz)]) w) := by
  have H1 := Lib.hid h1; obtain ⟨A1, c1, rfl, l1, m1, -⟩ := h1
  have H2 := Lib.hid h2; obtain ⟨A2, c2, rfl, -, -, -⟩ := h2
  have Hb0 : Hid (Below w.heap.size w ((w.alloc (.cells #[.slice A1 ss.length c1, .slice A2 ps.length c2, .int .i64 fz, .bool off] 38)).alloc (.cells #[.int .i64 0, .int .i64 0, .int .i64 0, .int .i64 0] 39))) := Lib.hid (((Below.refl _ w).alloc (Nat.le_refl _) _).alloc (by simp) _)
  have D0 : Hid (((w.alloc (.cells #[.slice A1 ss.length c1, .slice A2 ps.length c2, .int .i64 fz, .bool off] 38)).alloc (.cells #[.int .i64 0, .int .i64 0, .int .i64 0, .int .i64 0] 39)).heap[w.heap.size]? = some (.cells #[.slice A1 ss.length c1, .slice A2 ps.length c2, .int .i64 fz, .bool off] 38 (0, 0))) := Lib.hid (heap_alloc2_old w _ _)
  have R0 : Hid (((w.alloc (.cells #[.slice A1 ss.length c1, .slice A2 ps.length c2, .int .i64 fz, .bool off] 38)).alloc (.cells #[.int .i64 0, .int .i64 0, .int .i64 0, .int .i64 0] 39)).heap[w.heap.size + 1]? = some (.cells #[.int .i64 0, .int .i64 0, .int .i64 0, .int .i64 0] 39 (0, 0))) := Lib.hid (heap_alloc2_new w _ _)
  have Lt0 : Hid (w.heap.size + 1 < ((w.alloc (.cells #[.slice A1 ss.length c1, .slice A2 ps.length c2, .int .i64 fz, .bool off] 38)).alloc (.cells #[.int .i64 0, .int .i64 0, .int .i64 0, .int .i64 0] 39)).heap.size) := Lib.hid (by simp)
  have HA : Hid (csA ss ps fz = if dskOk ss ps fz then chA ss ps else #[.int .i64 0, .int .i64 0, .int .i64 0, .int .i64 0]) := Lib.hid rfl
  have HC : Hid (csC ss ps fz = if dskOk ss ps fz then chC ss ps else 1) := Lib.hid rfl
  generalize csA ss ps fz = RA at *
  generalize csC ss ps fz = RC at *
  have CV := Lib.hid (implValidDisk_any (fz := fz) (off := off) (H1.out.at hB Hb0.out) (H2.out.at hB Hb0.out) (Nat.le_refl _))
  have HOK := Lib.hid (fun (h : dskOk ss ps fz = true) => (show (16 ≤ ss.length) from (dskOk_iff.1 h).1))
  have HZ := Lib.hid (fun (h : dskOk ss ps fz = true) (k : Nat) (hk : k < ss.length) => rdB_64 h hk)
  generalize dskOk ss ps fz = ok at *
  go_enter Try.func58, Try.ntmps58
  go_wp2_with (refine wpList_load_row rfl 38 (.tmp 1) rfl _ rfl 38 _ (0, 0) _ D0.out Try.underlying38 rfl (by kernel_rfl) ?_)
  generalize ((w.alloc (.cells #[.slice A1 ss.length c1, .slice A2 ps.length c2, .int .i64 fz, .bool off] 38)).alloc (.cells #[.int .i64 0, .int .i64 0, .int .i64 0, .int .i64 0] 39)) = w0 at *
  refine CV.out.mono ?_
  rintro e w1 ⟨rfl, g⟩
  have Hb1 := Lib.hid (Hb0.out.trans (g.mono Hb0.out.size))
  have D1 := Lib.hid ((g.block _ (by have := Lt0.out; omega)).trans D0.out)
  have R1 := Lib.hid ((g.block _ Lt0.out).trans R0.out)
  have Lt1 : Hid (w.heap.size + 2 ≤ w1.heap.size) := Lib.hid (by have := Lt0.out; have := g.size; omega)
  clear g CV
  cases ok
  · have Hf : Hid (RA = #[.int .i64 0, .int .i64 0, .int .i64 0, .int .i64 0] ∧ RC = 1) := Lib.hid ⟨by rw [HA.out]; rfl, by rw [HC.out]; rfl⟩
    go_wp2_with (refine wpList_store_row rfl 39 (.tmp 2) (.tmp 15) rfl (w.heap.size + 1) #[.int .i64 0, .int .i64 0, .int .i64 0, .int .i64 0] rfl rfl 39 _ R1.out (infoS4 _ _ _ _) rfl oneS4 ?_)
    refine bodyPost_ret (v := .tuple #[.agg #[.int .i64 0, .int .i64 0, .int .i64 0, .int .i64 0], .int .i64 1]) ?_ rfl ?_
    · exact results_cell_row2 rfl _ _ (w.heap.size + 1) 39 _ (0, 0) _ _ rfl rfl (setRow_heap _ _ _ _ _ _ R1.out) Try.underlying39 rfl (by kernel_rfl)
    · exact ⟨by rw [Hf.out.1, Hf.out.2], below_setRow Hb1.out (Nat.le_succ _) _⟩
  have hn := HOK.out (by first | rfl | trivial)
  have z0 := HZ.out (by first | rfl | trivial) 0 (by omega)
  have z1 := HZ.out (by first | rfl | trivial) 1 (by omega)
  have HA2 : Hid (RA = chA ss ps) := Lib.hid (by rw [HA.out]; rfl)
  have HC2 : Hid (RC = chC ss ps) := Lib.hid (by rw [HC.out]; rfl)
  clear HA HC HOK HZ
  have G2 : Hid (Below w1.heap.size w1 (w1.alloc (.cells #[.int .i64 0, .int .i64 0, .int .i64 0, .int .i64 0] 39))) := Lib.hid ((Below.refl _ _).alloc (Nat.le_refl _) _)
  have Q2 : Hid ((w1.alloc (.cells #[.int .i64 0, .int .i64 0, .int .i64 0, .int .i64 0] 39)).heap[w1.heap.size]? = some (.cells #[.int .i64 0, .int .i64 0, .int .i64 0, .int .i64 0] 39 (0, 0))) := Lib.hid (heap_alloc_new w1 _)
  have L2 : Hid (w1.heap.size < (w1.alloc (.cells #[.int .i64 0, .int .i64 0, .int .i64 0, .int .i64 0] 39)).heap.size) := Lib.hid (by simp)
  have Hb2 := Lib.hid (Hb1.out.trans (G2.out.mono Hb1.out.size))
  have D2 := Lib.hid ((G2.out.block _ (by have := Lt1.out; omega)).trans D1.out)
  have R2 := Lib.hid ((G2.out.block _ (by have := Lt1.out; omega)).trans R1.out)
  go_wp2_with fail
  generalize (w1.alloc (.cells #[.int .i64 0, .int .i64 0, .int .i64 0, .int .i64 0] 39)) = w2 at *
  have Lb : Hid (w.heap.size + 2 ≤ w1.heap.size) := Lt1
  clear G2 D1 R1 Lt1
  generalize w1.heap.size = b4 at *
  have HS : Hid (∀ W, Below w2.heap.size w2 W → W.cell? ⟨w.heap.size, 0, none⟩ = some (.slice A1 ss.length c1) ∧ W.cell? ⟨w.heap.size, 1, none⟩ = some (.slice A2 ps.length c2) ∧ W.cell? ⟨w.heap.size, 2, none⟩ = some (.int .i64 fz) ∧ W.cell? ⟨w.heap.size, 3, none⟩ = some (.bool off)) := Lib.hid (fun W hW => by
    have hd := (hW.block _ (by have := L2.out; have := Lb.out; omega)).trans D2.out
    exact ⟨by rw [cell_of_row _ _ _ _ _ _ hd]; rfl, by rw [cell_of_row _ _ _ _ _ _ hd]; rfl, by rw [cell_of_row _ _ _ _ _ _ hd]; rfl, by rw [cell_of_row _ _ _ _ _ _ hd]; rfl⟩)
  have k0 : Below w2.heap.size w2 w2.drew := (Below.refl _ _).drew
  apply wp_twoS w2 #[.slice A1 ss.length c1, .slice A2 ps.length c2, .int .i64 fz, .bool off, .int .i64 0] #[.slice A1 ss.length c1, .slice A2 ps.length c2, .int .i64 fz, .bool off, .int .i64 1]
  · refine wp_region_held_drew (S := fun W => W.cell? ⟨w.heap.size, 0, none⟩ = some (.slice A1 ss.length c1) ∧ W.cell? ⟨w.heap.size, 1, none⟩ = some (.slice A2 ps.length c2) ∧ W.cell? ⟨w.heap.size, 2, none⟩ = some (.int .i64 fz) ∧ W.cell? ⟨w.heap.size, 3, none⟩ = some (.bool off)) (by kernel_rfl) (HS.out _ k0) (fun hHeld => ?_)
    refine held_yes 0 (some 17) rfl rfl (by kernel_rfl) (by kernel_rfl) (by kernel_rfl) (fun _ _ _ h => h) (by kernel_rfl) hHeld (v := ?_) (fun wz hSw => ?_) ?_
    rotate_left 1
    · (try dsimp only at hSw); go_simp; (try with_reducible rfl)
    try simp only [Act.put, List.setIfInBounds_toArray, List.set_cons_zero, List.set_cons_succ]
    refine held_yes 1 (some 18) rfl rfl (by kernel_rfl) (by kernel_rfl) (by kernel_rfl) (fun _ _ _ h => h) (by kernel_rfl) hHeld (v := ?_) (fun wz hSw => ?_) ?_
    rotate_left 1
    · (try dsimp only at hSw); go_simp; (try with_reducible rfl)
    try simp only [Act.put, List.setIfInBounds_toArray, List.set_cons_zero, List.set_cons_succ]
    refine held_yes 2 (some 19) rfl rfl (by kernel_rfl) (by kernel_rfl) (by kernel_rfl) (fun _ _ _ h => h) (by kernel_rfl) hHeld (v := ?_) (fun wz hSw => ?_) ?_
    rotate_left 1
    · (try dsimp only at hSw); go_simp; (try with_reducible rfl)
    try simp only [Act.put, List.setIfInBounds_toArray, List.set_cons_zero, List.set_cons_succ]
    refine held_yes 3 (some 20) rfl rfl (by kernel_rfl) (by kernel_rfl) (by kernel_rfl) (fun _ _ _ h => h) (by kernel_rfl) hHeld (v := ?_) (fun wz hSw => ?_) ?_
    rotate_left 1
    · (try dsimp only at hSw); go_simp; (try with_reducible rfl)
    try simp only [Act.put, List.setIfInBounds_toArray, List.set_cons_zero, List.set_cons_succ]
    refine wpAnyH_ready (rs := [4, 5]) (by kernel_rfl) (by simp) ?_
    refine AllReadyH.cons rfl (fun K hK => ?_) (AllReadyH.cons rfl (fun K hK => ?_) AllReadyH.nil)
    · skip
      have kA : Below w2.heap.size w2 (w2.alloc (.cells #[.slice none 0 0, .slice none 0 0, .int .i64 0, .bool false, .int .i64 0] 178)).drew := ((Below.refl _ _).alloc (Nat.le_refl _) _).drew
      have zA : (w2.alloc (.cells #[.slice none 0 0, .slice none 0 0, .int .i64 0, .bool false, .int .i64 0] 178)).heap.size = w2.heap.size + 1 := by simp
      have kB : Below w2.heap.size w2 ((w2.alloc (.cells #[.slice none 0 0, .slice none 0 0, .int .i64 0, .bool false, .int .i64 0] 178)).alloc (.cells #[.slice none 0 0, .slice none 0 0, .int .i64 0, .bool false, .int .i64 0] 178)).drew := (((Below.refl _ _).alloc (Nat.le_refl _) _).alloc (by rw [zA]; omega) _).drew
      have rA : ((w2.alloc (.cells #[.slice none 0 0, .slice none 0 0, .int .i64 0, .bool false, .int .i64 0] 178)).alloc (.cells #[.slice none 0 0, .slice none 0 0, .int .i64 0, .bool false, .int .i64 0] 178)).drew.heap[w2.heap.size]? = some (.cells #[.slice none 0 0, .slice none 0 0, .int .i64 0, .bool false, .int .i64 0] 178 (0, 0)) := heap_alloc2_old w2 _ _
      have rB : ((w2.alloc (.cells #[.slice none 0 0, .slice none 0 0, .int .i64 0, .bool false, .int .i64 0] 178)).alloc (.cells #[.slice none 0 0, .slice none 0 0, .int .i64 0, .bool false, .int .i64 0] 178)).drew.heap[w2.heap.size + 1]? = some (.cells #[.slice none 0 0, .slice none 0 0, .int .i64 0, .bool false, .int .i64 0] 178 (0, 0)) := heap_alloc2_new w2 _ _
      have HrA := Lib.hid rA; have HrB := Lib.hid rB; have HkA := Lib.hid kA; have HkB := Lib.hid kB; clear rA rB kA kB
      go_simp
      refine hK.out _ _ (HS.out _ HkA.out) (fun hHeld => ?_)
      clear hK K
      try simp only [Act.put, List.setIfInBounds_toArray, List.set_cons_zero, List.set_cons_succ]
      refine wpAnyH_ready (rs := [5]) (by kernel_rfl) (by simp) ?_
      refine AllReadyH.cons rfl (fun K hK => ?_) AllReadyH.nil
      go_simp
      refine hK.out _ _ (HS.out _ HkB.out) (fun hHeld => ?_)
      clear hK K zA
      try simp only [Act.put, List.setIfInBounds_toArray, List.set_cons_zero, List.set_cons_succ]
      generalize ((w2.alloc (.cells #[.slice none 0 0, .slice none 0 0, .int .i64 0, .bool false, .int .i64 0] 178)).alloc (.cells #[.slice none 0 0, .slice none 0 0, .int .i64 0, .bool false, .int .i64 0] 178)).drew = wb at *
      refine wpAnyH_ready (rs := [6]) (by kernel_rfl) (by simp) ?_
      refine AllReadyH.cons rfl (fun K hK => ?_) AllReadyH.nil
      refine wp_store_rowd none (by kernel_rfl) rfl 178 (.tmp 6) (.tmp 18) rfl w2.heap.size #[.slice A1 ss.length c1, .slice A2 ps.length c2, .int .i64 fz, .bool off, .int .i64 0] rfl rfl 178 #[.slice none 0 0, .slice none 0 0, .int .i64 0, .bool false, .int .i64 0] HrA.out (infoSl _ _ _ _ _) rfl (by simp [Value.oneCell']) ?_
      have kC : Below w2.heap.size w2 (wb.setRow w2.heap.size #[.slice A1 ss.length c1, .slice A2 ps.length c2, .int .i64 fz, .bool off, .int .i64 0]) := below_setRow HkB.out (by omega) _
      have F6 : (wb.setRow w2.heap.size #[.slice A1 ss.length c1, .slice A2 ps.length c2, .int .i64 fz, .bool off, .int .i64 0]).heap[w2.heap.size]? = some (.cells #[.slice A1 ss.length c1, .slice A2 ps.length c2, .int .i64 fz, .bool off, .int .i64 0] 178 (0, 0)) := setRow_heap _ _ _ _ _ _ HrA.out
      have F7 : (wb.setRow w2.heap.size #[.slice A1 ss.length c1, .slice A2 ps.length c2, .int .i64 fz, .bool off, .int .i64 0]).heap[(w2.heap.size + 1)]? = some (.cells #[.slice none 0 0, .slice none 0 0, .int .i64 0, .bool false, .int .i64 0] 178 (0, 0)) := (setRow_other _ _ _ _ (by omega)).trans HrB.out
      refine hK.out _ _ (HS.out _ kC) (fun hHeld => ?_)
      clear hK K
      skip
      generalize (wb.setRow w2.heap.size #[.slice A1 ss.length c1, .slice A2 ps.length c2, .int .i64 fz, .bool off, .int .i64 0]) = wc at *
      refine wpAnyH_ready (rs := [7]) (by kernel_rfl) (by simp) ?_
      refine AllReadyH.cons rfl (fun K hK => ?_) AllReadyH.nil
      refine wp_store_rowd none (by kernel_rfl) rfl 178 (.tmp 7) (.tmp 20) rfl (w2.heap.size + 1) #[.slice A1 ss.length c1, .slice A2 ps.length c2, .int .i64 fz, .bool off, .int .i64 1] rfl rfl 178 #[.slice none 0 0, .slice none 0 0, .int .i64 0, .bool false, .int .i64 0] F7 (infoSl _ _ _ _ _) rfl (by simp [Value.oneCell']) ?_
      have kD : Below w2.heap.size w2 (wc.setRow (w2.heap.size + 1) #[.slice A1 ss.length c1, .slice A2 ps.length c2, .int .i64 fz, .bool off, .int .i64 1]) := below_setRow kC (by omega) _
      have E7 : (wc.setRow (w2.heap.size + 1) #[.slice A1 ss.length c1, .slice A2 ps.length c2, .int .i64 fz, .bool off, .int .i64 1]).heap[(w2.heap.size + 1)]? = some (.cells #[.slice A1 ss.length c1, .slice A2 ps.length c2, .int .i64 fz, .bool off, .int .i64 1] 178 (0, 0)) := setRow_heap _ _ _ _ _ _ F7
      have E6 : (wc.setRow (w2.heap.size + 1) #[.slice A1 ss.length c1, .slice A2 ps.length c2, .int .i64 fz, .bool off, .int .i64 1]).heap[w2.heap.size]? = some (.cells #[.slice A1 ss.length c1, .slice A2 ps.length c2, .int .i64 fz, .bool off, .int .i64 0] 178 (0, 0)) := (setRow_other _ _ _ _ (by omega)).trans F6
      refine hK.out _ _ (HS.out _ kD) (fun hHeld => ?_)
      clear hK K hHeld F6 F7 kC
      try simp only [Act.put]
      generalize (wc.setRow (w2.heap.size + 1) #[.slice A1 ss.length c1, .slice A2 ps.length c2, .int .i64 fz, .bool off, .int .i64 1]) = wd at *
      refine wpAnyH_done (by kernel_rfl) ?_ _
      have Hk := Lib.hid kD; clear kD HkA HkB HrA HrB
      generalize w2.heap.size + 1 = bq at E6 E7 ⊢
      generalize w2.heap.size = bp at E6 E7 ⊢
      exact ⟨bp, bq, rfl, E6, E7, Hk.out⟩
    · skip
      have kA : Below w2.heap.size w2 (w2.alloc (.cells #[.slice none 0 0, .slice none 0 0, .int .i64 0, .bool false, .int .i64 0] 178)).drew := ((Below.refl _ _).alloc (Nat.le_refl _) _).drew
      have zA : (w2.alloc (.cells #[.slice none 0 0, .slice none 0 0, .int .i64 0, .bool false, .int .i64 0] 178)).heap.size = w2.heap.size + 1 := by simp
      have kB : Below w2.heap.size w2 ((w2.alloc (.cells #[.slice none 0 0, .slice none 0 0, .int .i64 0, .bool false, .int .i64 0] 178)).alloc (.cells #[.slice none 0 0, .slice none 0 0, .int .i64 0, .bool false, .int .i64 0] 178)).drew := (((Below.refl _ _).alloc (Nat.le_refl _) _).alloc (by rw [zA]; omega) _).drew
      have rA : ((w2.alloc (.cells #[.slice none 0 0, .slice none 0 0, .int .i64 0, .bool false, .int .i64 0] 178)).alloc (.cells #[.slice none 0 0, .slice none 0 0, .int .i64 0, .bool false, .int .i64 0] 178)).drew.heap[w2.heap.size]? = some (.cells #[.slice none 0 0, .slice none 0 0, .int .i64 0, .bool false, .int .i64 0] 178 (0, 0)) := heap_alloc2_old w2 _ _
      have rB : ((w2.alloc (.cells #[.slice none 0 0, .slice none 0 0, .int .i64 0, .bool false, .int .i64 0] 178)).alloc (.cells #[.slice none 0 0, .slice none 0 0, .int .i64 0, .bool false, .int .i64 0] 178)).drew.heap[w2.heap.size + 1]? = some (.cells #[.slice none 0 0, .slice none 0 0, .int .i64 0, .bool false, .int .i64 0] 178 (0, 0)) := heap_alloc2_new w2 _ _
      have HrA := Lib.hid rA; have HrB := Lib.hid rB; have HkA := Lib.hid kA; have HkB := Lib.hid kB; clear rA rB kA kB
      go_simp
      refine hK.out _ _ (HS.out _ HkA.out) (fun hHeld => ?_)
      clear hK K
      try simp only [Act.put, List.setIfInBounds_toArray, List.set_cons_zero, List.set_cons_succ]
      refine wpAnyH_ready (rs := [4]) (by kernel_rfl) (by simp) ?_
      refine AllReadyH.cons rfl (fun K hK => ?_) AllReadyH.nil
      go_simp
      refine hK.out _ _ (HS.out _ HkB.out) (fun hHeld => ?_)
      clear hK K zA
      try simp only [Act.put, List.setIfInBounds_toArray, List.set_cons_zero, List.set_cons_succ]
      generalize ((w2.alloc (.cells #[.slice none 0 0, .slice none 0 0, .int .i64 0, .bool false, .int .i64 0] 178)).alloc (.cells #[.slice none 0 0, .slice none 0 0, .int .i64 0, .bool false, .int .i64 0] 178)).drew = wb at *
      refine wpAnyH_ready (rs := [6]) (by kernel_rfl) (by simp) ?_
      refine AllReadyH.cons rfl (fun K hK => ?_) AllReadyH.nil
      refine wp_store_rowd none (by kernel_rfl) rfl 178 (.tmp 6) (.tmp 18) rfl (w2.heap.size + 1) #[.slice A1 ss.length c1, .slice A2 ps.length c2, .int .i64 fz, .bool off, .int .i64 0] rfl rfl 178 #[.slice none 0 0, .slice none 0 0, .int .i64 0, .bool false, .int .i64 0] HrB.out (infoSl _ _ _ _ _) rfl (by simp [Value.oneCell']) ?_
      have kC : Below w2.heap.size w2 (wb.setRow (w2.heap.size + 1) #[.slice A1 ss.length c1, .slice A2 ps.length c2, .int .i64 fz, .bool off, .int .i64 0]) := below_setRow HkB.out (by omega) _
      have F6 : (wb.setRow (w2.heap.size + 1) #[.slice A1 ss.length c1, .slice A2 ps.length c2, .int .i64 fz, .bool off, .int .i64 0]).heap[(w2.heap.size + 1)]? = some (.cells #[.slice A1 ss.length c1, .slice A2 ps.length c2, .int .i64 fz, .bool off, .int .i64 0] 178 (0, 0)) := setRow_heap _ _ _ _ _ _ HrB.out
      have F7 : (wb.setRow (w2.heap.size + 1) #[.slice A1 ss.length c1, .slice A2 ps.length c2, .int .i64 fz, .bool off, .int .i64 0]).heap[w2.heap.size]? = some (.cells #[.slice none 0 0, .slice none 0 0, .int .i64 0, .bool false, .int .i64 0] 178 (0, 0)) := (setRow_other _ _ _ _ (by omega)).trans HrA.out
      refine hK.out _ _ (HS.out _ kC) (fun hHeld => ?_)
      clear hK K
      try simp only [Act.put]
      generalize (wb.setRow (w2.heap.size + 1) #[.slice A1 ss.length c1, .slice A2 ps.length c2, .int .i64 fz, .bool off, .int .i64 0]) = wc at *
      refine wpAnyH_ready (rs := [7]) (by kernel_rfl) (by simp) ?_
      refine AllReadyH.cons rfl (fun K hK => ?_) AllReadyH.nil
      refine wp_store_rowd none (by kernel_rfl) rfl 178 (.tmp 7) (.tmp 20) rfl w2.heap.size #[.slice A1 ss.length c1, .slice A2 ps.length c2, .int .i64 fz, .bool off, .int .i64 1] rfl rfl 178 #[.slice none 0 0, .slice none 0 0, .int .i64 0, .bool false, .int .i64 0] F7 (infoSl _ _ _ _ _) rfl (by simp [Value.oneCell']) ?_
      have kD : Below w2.heap.size w2 (wc.setRow w2.heap.size #[.slice A1 ss.length c1, .slice A2 ps.length c2, .int .i64 fz, .bool off, .int .i64 1]) := below_setRow kC (by omega) _
      have E7 : (wc.setRow w2.heap.size #[.slice A1 ss.length c1, .slice A2 ps.length c2, .int .i64 fz, .bool off, .int .i64 1]).heap[w2.heap.size]? = some (.cells #[.slice A1 ss.length c1, .slice A2 ps.length c2, .int .i64 fz, .bool off, .int .i64 1] 178 (0, 0)) := setRow_heap _ _ _ _ _ _ F7
      have E6 : (wc.setRow w2.heap.size #[.slice A1 ss.length c1, .slice A2 ps.length c2, .int .i64 fz, .bool off, .int .i64 1]).heap[(w2.heap.size + 1)]? = some (.cells #[.slice A1 ss.length c1, .slice A2 ps.length c2, .int .i64 fz, .bool off, .int .i64 0] 178 (0, 0)) := (setRow_other _ _ _ _ (by omega)).trans F6
      refine hK.out _ _ (HS.out _ kD) (fun hHeld => ?_)
      clear hK K hHeld F6 F7 kC
      try simp only [Act.put]
      generalize (wc.setRow w2.heap.size #[.slice A1 ss.length c1, .slice A2 ps.length c2, .int .i64 fz, .bool off, .int .i64 1]) = wd at *
      refine wpAnyH_done (by kernel_rfl) ?_ _
      have Hk := Lib.hid kD; clear kD HkA HkB HrA HrB
      generalize w2.heap.size + 1 = bq at E6 E7 ⊢
      generalize w2.heap.size = bp at E6 E7 ⊢
      exact ⟨bq, bp, rfl, E6, E7, Hk.out⟩
  rintro a' W ⟨b6, b7, rfl, e6, e7, bel⟩
  have E6 := Lib.hid e6; have E7 := Lib.hid e7; clear e6 e7
  have GW := Lib.hid bel; clear bel k0 HS
  have QW := Lib.hid ((GW.out.block _ L2.out).trans Q2.out)
  have C0 : Hid (∀ U, Below w.heap.size w U → Calls Try.prog 134 #[.agg #[.slice A1 ss.length c1, .slice A2 ps.length c2, .int .i64 fz, .bool off, .int .i64 0]] U (GivesB (.tuple #[.agg (slA ss ps 0), .bool (slY ss ps 0)]) U)) := Lib.hid (fun U hU => slotRead_any (k := 0) (w := U) (fz := fz) (off := off) (by omega) (by omega) z0 (H1.out.at hB hU) (H2.out.at hB hU) (Nat.le_refl _))
  have C1 : Hid (∀ U, Below w.heap.size w U → Calls Try.prog 134 #[.agg #[.slice A1 ss.length c1, .slice A2 ps.length c2, .int .i64 fz, .bool off, .int .i64 1]] U (GivesB (.tuple #[.agg (slA ss ps 1), .bool (slY ss ps 1)]) U)) := Lib.hid (fun U hU => slotRead_any (k := 1) (w := U) (fz := fz) (off := off) (by omega) (by omega) z1 (H1.out.at hB hU) (H2.out.at hB hU) (Nat.le_refl _))
  have HW : Hid (chW ss ps = if slY ss ps 0 then (if slY ss ps 1 then (if slT ss ps 1 < slT ss ps 0 then 0 else 1) else 0) else if slY ss ps 1 then 1 else 2) := Lib.hid rfl
  have HA : Hid (RA = if chW ss ps = 0 then slA ss ps 0 else if chW ss ps = 1 then slA ss ps 1 else #[.int .i64 0, .int .i64 0, .int .i64 0, .int .i64 0]) := Lib.hid (by rw [HA2.out]; rfl)
  have HC : Hid (RC = if chW ss ps = 2 then 10 else 0) := Lib.hid (by rw [HC2.out]; rfl)
  have Q0 := Lib.hid (sl_cases ss ps 0); have Q1 := Lib.hid (sl_cases ss ps 1)
  clear HA2 HC2 z0 z1 D2 Q2
  generalize chW ss ps = RW at *
  generalize slY ss ps 0 = y0 at *
  generalize slY ss ps 1 = y1 at *
  generalize slA ss ps 0 = a0 at *
  generalize slA ss ps 1 = a1 at *
  generalize slT ss ps 0 = t0 at *
  generalize slT ss ps 1 = t1 at *
  have q0 := Q0.out; have q1 := Q1.out; clear Q0 Q1
  try simp only [Exit.then]
  go_wp2_with (first | (refine wpList_load_row rfl 178 (.tmp 6) rfl _ rfl 178 _ (0, 0) _ E6.out Try.underlying178 rfl (by kernel_rfl) ?_) | (refine wpList_load_row rfl 178 (.tmp 7) rfl _ rfl 178 _ (0, 0) _ E7.out Try.underlying178 rfl (by kernel_rfl) ?_))
  have G8 : Hid (Below b4 w2 (W.alloc (.cells #[.func (.func 134) #[.agg #[.slice A1 ss.length c1, .slice A2 ps.length c2, .int .i64 fz, .bool off, .int .i64 0]] #[], .func (.func 134) #[.agg #[.slice A1 ss.length c1, .slice A2 ps.length c2, .int .i64 fz, .bool off, .int .i64 1]] #[]] 179))) := Lib.hid ((GW.out.mono (Nat.le_of_lt L2.out)).alloc (by have := GW.out.size; have := L2.out; omega) _)
  have Q8 : Hid ((W.alloc (.cells #[.func (.func 134) #[.agg #[.slice A1 ss.length c1, .slice A2 ps.length c2, .int .i64 fz, .bool off, .int .i64 0]] #[], .func (.func 134) #[.agg #[.slice A1 ss.length c1, .slice A2 ps.length c2, .int .i64 fz, .bool off, .int .i64 1]] #[]] 179)).heap[b4]? = some (.cells #[.int .i64 0, .int .i64 0, .int .i64 0, .int .i64 0] 39 (0, 0))) := Lib.hid (by rw [Below.heap_alloc _ _ _ (by have := GW.out.size; have := L2.out; omega)]; exact QW.out)
  have F8 : Hid ((W.alloc (.cells #[.func (.func 134) #[.agg #[.slice A1 ss.length c1, .slice A2 ps.length c2, .int .i64 fz, .bool off, .int .i64 0]] #[], .func (.func 134) #[.agg #[.slice A1 ss.length c1, .slice A2 ps.length c2, .int .i64 fz, .bool off, .int .i64 1]] #[]] 179)).heap[W.heap.size]? = some (.cells #[.func (.func 134) #[.agg #[.slice A1 ss.length c1, .slice A2 ps.length c2, .int .i64 fz, .bool off, .int .i64 0]] #[], .func (.func 134) #[.agg #[.slice A1 ss.length c1, .slice A2 ps.length c2, .int .i64 fz, .bool off, .int .i64 1]] #[]] 179 (0, 0))) := Lib.hid (heap_alloc_new W _)
  have L8 : Hid (b4 < W.heap.size) := Lib.hid (by have := GW.out.size; have := L2.out; omega)
  have Z8 : Hid (W.heap.size < (W.alloc (.cells #[.func (.func 134) #[.agg #[.slice A1 ss.length c1, .slice A2 ps.length c2, .int .i64 fz, .bool off, .int .i64 0]] #[], .func (.func 134) #[.agg #[.slice A1 ss.length c1, .slice A2 ps.length c2, .int .i64 fz, .bool off, .int .i64 1]] #[]] 179)).heap.size) := Lib.hid (by simp)
  generalize (W.alloc (.cells #[.func (.func 134) #[.agg #[.slice A1 ss.length c1, .slice A2 ps.length c2, .int .i64 fz, .bool off, .int .i64 0]] #[], .func (.func 134) #[.agg #[.slice A1 ss.length c1, .slice A2 ps.length c2, .int .i64 fz, .bool off, .int .i64 1]] #[]] 179)) = w8 at *
  generalize W.heap.size = b8 at *
  clear E6 E7 GW QW
  rcases q0 with ⟨rfl, rfl⟩ | ⟨rfl, e0, x0, x1, x2, rfl⟩
  · rcases q1 with ⟨rfl, rfl⟩ | ⟨rfl, -, u0, u1, u2, rfl⟩
    · skip
      have Hf : Hid (RA = #[.int .i64 0, .int .i64 0, .int .i64 0, .int .i64 0] ∧ RC = 10) := Lib.hid (by
        have h : RW = 2 := by rw [HW.out]; simp
        exact ⟨by rw [HA.out, h]; rfl, by rw [HC.out, h]; rfl⟩)
      clear HA HC HW
      go_loopw [5, 27] (fun cv iv wr => ((iv = .int .i64 0 ∧ cv = .int .i64 10 ∧ wr.heap[b4]? = some (.cells #[.int .i64 0, .int .i64 0, .int .i64 0, .int .i64 0] 39 (0, 0))) ∨ (iv = .int .i64 1 ∧ cv = .int .i64 10 ∧ wr.heap[b4]? = some (.cells #[.int .i64 0, .int .i64 0, .int .i64 0, .int .i64 0] 39 (0, 0))) ∨ (iv = .int .i64 2 ∧ cv = .int .i64 10 ∧ wr.heap[b4]? = some (.cells #[.int .i64 0, .int .i64 0, .int .i64 0, .int .i64 0] 39 (0, 0)))) ∧ Below b4 w2 wr ∧ wr.heap[b8]? = some (.cells #[.func (.func 134) #[.agg #[.slice A1 ss.length c1, .slice A2 ps.length c2, .int .i64 fz, .bool off, .int .i64 0]] #[], .func (.func 134) #[.agg #[.slice A1 ss.length c1, .slice A2 ps.length c2, .int .i64 fz, .bool off, .int .i64 1]] #[]] 179 (0, 0)) ∧ b8 < wr.heap.size) (fun _ iv _ => 2 - (intOf iv).toNat)
      case atStart => exact ⟨.inl ⟨rfl, rfl, Q8.out⟩, G8.out, F8.out, Z8.out⟩
      case round =>
        obtain ⟨hst, hbel, h8, hz⟩ := hrel
        have HB := Lib.hid hbel; have H8 := Lib.hid h8
        have HBw := Lib.hid (Hb2.out.trans (hbel.mono (by have := Lb.out; omega)))
        have hzb : b4 ≤ wr.heap.size := by have := L8.out; omega
        clear hbel h8
        rcases hst with ⟨rfl, rfl, hq⟩ | ⟨rfl, rfl, hq⟩ | ⟨rfl, rfl, hq⟩
        · have HQ := Lib.hid hq; clear hq
          have f8 : wr.cell? ⟨b8, 0, none⟩ = some (.func (.func 134) #[.agg #[.slice A1 ss.length c1, .slice A2 ps.length c2, .int .i64 fz, .bool off, .int .i64 0]] #[]) := by rw [cell_of_row _ _ _ _ _ _ H8.out]; rfl
          go_wp2_with fail
          clear f8
          refine (C0.out wr HBw.out).mono ?_
          rintro e w4 ⟨rfl, g⟩
          have G5 : Hid (Below b4 w2 (w4.alloc (.cells #[.int .i64 0, .int .i64 0, .int .i64 0, .int .i64 0] 39))) := Lib.hid ((HB.out.trans (g.mono hzb)).alloc (Nat.le_trans hzb g.size) _)
          have Q5 : Hid ((w4.alloc (.cells #[.int .i64 0, .int .i64 0, .int .i64 0, .int .i64 0] 39)).heap[b4]? = some (.cells #[.int .i64 0, .int .i64 0, .int .i64 0, .int .i64 0] 39 (0, 0))) := Lib.hid (by rw [Below.heap_alloc _ _ _ (by have := L8.out; have := g.size; omega)]; exact (g.block _ (by have := L8.out; omega)).trans HQ.out)
          have F5 : Hid ((w4.alloc (.cells #[.int .i64 0, .int .i64 0, .int .i64 0, .int .i64 0] 39)).heap[b8]? = some (.cells #[.func (.func 134) #[.agg #[.slice A1 ss.length c1, .slice A2 ps.length c2, .int .i64 fz, .bool off, .int .i64 0]] #[], .func (.func 134) #[.agg #[.slice A1 ss.length c1, .slice A2 ps.length c2, .int .i64 fz, .bool off, .int .i64 1]] #[]] 179 (0, 0))) := Lib.hid (by rw [Below.heap_alloc _ _ _ (by have := g.size; omega)]; exact (g.block _ hz).trans H8.out)
          have S5 : Hid ((w4.alloc (.cells #[.int .i64 0, .int .i64 0, .int .i64 0, .int .i64 0] 39)).heap[w4.heap.size]? = some (.cells #[.int .i64 0, .int .i64 0, .int .i64 0, .int .i64 0] 39 (0, 0))) := Lib.hid (heap_alloc_new w4 _)
          have Z5 : Hid (b8 < (w4.alloc (.cells #[.int .i64 0, .int .i64 0, .int .i64 0, .int .i64 0] 39)).heap.size) := Lib.hid (by have := g.size; simp; omega)
          clear g
          have m0 : (w4.alloc (.cells #[.int .i64 0, .int .i64 0, .int .i64 0, .int .i64 0] 39)).cell? ⟨w4.heap.size, 0, none⟩ = some (.int .i64 0) := by rw [cell_of_row _ _ _ _ _ _ S5.out]; rfl
          have m1 : (w4.alloc (.cells #[.int .i64 0, .int .i64 0, .int .i64 0, .int .i64 0] 39)).cell? ⟨w4.heap.size, 1, none⟩ = some (.int .i64 0) := by rw [cell_of_row _ _ _ _ _ _ S5.out]; rfl
          have m2 : (w4.alloc (.cells #[.int .i64 0, .int .i64 0, .int .i64 0, .int .i64 0] 39)).cell? ⟨w4.heap.size, 2, none⟩ = some (.int .i64 0) := by rw [cell_of_row _ _ _ _ _ _ S5.out]; rfl
          have m3 : (w4.alloc (.cells #[.int .i64 0, .int .i64 0, .int .i64 0, .int .i64 0] 39)).cell? ⟨w4.heap.size, 3, none⟩ = some (.int .i64 0) := by rw [cell_of_row _ _ _ _ _ _ S5.out]; rfl
          have n3 : (w4.alloc (.cells #[.int .i64 0, .int .i64 0, .int .i64 0, .int .i64 0] 39)).cell? ⟨b4, 3, none⟩ = some (.int .i64 0) := by rw [cell_of_row _ _ _ _ _ _ Q5.out]; rfl
          go_wp2_with fail
          go_roundw
          case rel => exact ⟨.inr (.inl ⟨rfl, rfl, Q5.out⟩), G5.out, F5.out, Z5.out⟩
          case measure => simp [intOf]
        · have HQ := Lib.hid hq; clear hq
          have f8 : wr.cell? ⟨b8, 1, none⟩ = some (.func (.func 134) #[.agg #[.slice A1 ss.length c1, .slice A2 ps.length c2, .int .i64 fz, .bool off, .int .i64 1]] #[]) := by rw [cell_of_row _ _ _ _ _ _ H8.out]; rfl
          go_wp2_with fail
          clear f8
          refine (C1.out wr HBw.out).mono ?_
          rintro e w4 ⟨rfl, g⟩
          have G5 : Hid (Below b4 w2 (w4.alloc (.cells #[.int .i64 0, .int .i64 0, .int .i64 0, .int .i64 0] 39))) := Lib.hid ((HB.out.trans (g.mono hzb)).alloc (Nat.le_trans hzb g.size) _)
          have Q5 : Hid ((w4.alloc (.cells #[.int .i64 0, .int .i64 0, .int .i64 0, .int .i64 0] 39)).heap[b4]? = some (.cells #[.int .i64 0, .int .i64 0, .int .i64 0, .int .i64 0] 39 (0, 0))) := Lib.hid (by rw [Below.heap_alloc _ _ _ (by have := L8.out; have := g.size; omega)]; exact (g.block _ (by have := L8.out; omega)).trans HQ.out)
          have F5 : Hid ((w4.alloc (.cells #[.int .i64 0, .int .i64 0, .int .i64 0, .int .i64 0] 39)).heap[b8]? = some (.cells #[.func (.func 134) #[.agg #[.slice A1 ss.length c1, .slice A2 ps.length c2, .int .i64 fz, .bool off, .int .i64 0]] #[], .func (.func 134) #[.agg #[.slice A1 ss.length c1, .slice A2 ps.length c2, .int .i64 fz, .bool off, .int .i64 1]] #[]] 179 (0, 0))) := Lib.hid (by rw [Below.heap_alloc _ _ _ (by have := g.size; omega)]; exact (g.block _ hz).trans H8.out)
          have S5 : Hid ((w4.alloc (.cells #[.int .i64 0, .int .i64 0, .int .i64 0, .int .i64 0] 39)).heap[w4.heap.size]? = some (.cells #[.int .i64 0, .int .i64 0, .int .i64 0, .int .i64 0] 39 (0, 0))) := Lib.hid (heap_alloc_new w4 _)
          have Z5 : Hid (b8 < (w4.alloc (.cells #[.int .i64 0, .int .i64 0, .int .i64 0, .int .i64 0] 39)).heap.size) := Lib.hid (by have := g.size; simp; omega)
          clear g
          have m0 : (w4.alloc (.cells #[.int .i64 0, .int .i64 0, .int .i64 0, .int .i64 0] 39)).cell? ⟨w4.heap.size, 0, none⟩ = some (.int .i64 0) := by rw [cell_of_row _ _ _ _ _ _ S5.out]; rfl
          have m1 : (w4.alloc (.cells #[.int .i64 0, .int .i64 0, .int .i64 0, .int .i64 0] 39)).cell? ⟨w4.heap.size, 1, none⟩ = some (.int .i64 0) := by rw [cell_of_row _ _ _ _ _ _ S5.out]; rfl
          have m2 : (w4.alloc (.cells #[.int .i64 0, .int .i64 0, .int .i64 0, .int .i64 0] 39)).cell? ⟨w4.heap.size, 2, none⟩ = some (.int .i64 0) := by rw [cell_of_row _ _ _ _ _ _ S5.out]; rfl
          have m3 : (w4.alloc (.cells #[.int .i64 0, .int .i64 0, .int .i64 0, .int .i64 0] 39)).cell? ⟨w4.heap.size, 3, none⟩ = some (.int .i64 0) := by rw [cell_of_row _ _ _ _ _ _ S5.out]; rfl
          have n3 : (w4.alloc (.cells #[.int .i64 0, .int .i64 0, .int .i64 0, .int .i64 0] 39)).cell? ⟨b4, 3, none⟩ = some (.int .i64 0) := by rw [cell_of_row _ _ _ _ _ _ Q5.out]; rfl
          go_wp2_with fail
          go_roundw
          case rel => exact ⟨.inr (.inr ⟨rfl, rfl, Q5.out⟩), G5.out, F5.out, Z5.out⟩
          case measure => simp [intOf]
        · have HQ := Lib.hid hq; clear hq
          have m0 : wr.cell? ⟨b4, 0, none⟩ = some (.int .i64 0) := by rw [cell_of_row _ _ _ _ _ _ HQ.out]; rfl
          have m1 : wr.cell? ⟨b4, 1, none⟩ = some (.int .i64 0) := by rw [cell_of_row _ _ _ _ _ _ HQ.out]; rfl
          have m2 : wr.cell? ⟨b4, 2, none⟩ = some (.int .i64 0) := by rw [cell_of_row _ _ _ _ _ _ HQ.out]; rfl
          have m3 : wr.cell? ⟨b4, 3, none⟩ = some (.int .i64 0) := by rw [cell_of_row _ _ _ _ _ _ HQ.out]; rfl
          have RR := Lib.hid ((HB.out.block _ (by have := Lb.out; omega)).trans R2.out)
          go_wp2_with (refine wpList_store_row rfl 39 (.tmp 2) (.tmp 50) rfl (w.heap.size + 1) #[.int .i64 0, .int .i64 0, .int .i64 0, .int .i64 0] rfl rfl 39 _ RR.out (infoS4 _ _ _ _) rfl oneS4 ?_)
          refine bodyPost_ret (v := .tuple #[.agg #[.int .i64 0, .int .i64 0, .int .i64 0, .int .i64 0], .int .i64 10]) ?_ rfl ?_
          · exact results_cell_row2 rfl _ _ (w.heap.size + 1) 39 _ (0, 0) _ _ rfl rfl (setRow_heap _ _ _ _ _ _ RR.out) Try.underlying39 rfl (by kernel_rfl)
          · exact ⟨by rw [Hf.out.1, Hf.out.2], below_setRow HBw.out (Nat.le_succ _) _⟩
    · skip
      have Hf : Hid (RA = #[.int .i64 u0, .int .i64 u1, .int .i64 u2, .int .i64 t1] ∧ RC = 0) := Lib.hid (by
        have h : RW = 1 := by rw [HW.out]; simp
        exact ⟨by rw [HA.out, h]; rfl, by rw [HC.out, h]; rfl⟩)
      clear HA HC HW
      go_loopw [5, 27] (fun cv iv wr => ((iv = .int .i64 0 ∧ cv = .int .i64 10 ∧ wr.heap[b4]? = some (.cells #[.int .i64 0, .int .i64 0, .int .i64 0, .int .i64 0] 39 (0, 0))) ∨ (iv = .int .i64 1 ∧ cv = .int .i64 10 ∧ wr.heap[b4]? = some (.cells #[.int .i64 0, .int .i64 0, .int .i64 0, .int .i64 0] 39 (0, 0))) ∨ (iv = .int .i64 2 ∧ cv = .int .i64 0 ∧ wr.heap[b4]? = some (.cells #[.int .i64 u0, .int .i64 u1, .int .i64 u2, .int .i64 t1] 39 (0, 0)))) ∧ Below b4 w2 wr ∧ wr.heap[b8]? = some (.cells #[.func (.func 134) #[.agg #[.slice A1 ss.length c1, .slice A2 ps.length c2, .int .i64 fz, .bool off, .int .i64 0]] #[], .func (.func 134) #[.agg #[.slice A1 ss.length c1, .slice A2 ps.length c2, .int .i64 fz, .bool off, .int .i64 1]] #[]] 179 (0, 0)) ∧ b8 < wr.heap.size) (fun _ iv _ => 2 - (intOf iv).toNat)
      case atStart => exact ⟨.inl ⟨rfl, rfl, Q8.out⟩, G8.out, F8.out, Z8.out⟩
      case round =>
        obtain ⟨hst, hbel, h8, hz⟩ := hrel
        have HB := Lib.hid hbel; have H8 := Lib.hid h8
        have HBw := Lib.hid (Hb2.out.trans (hbel.mono (by have := Lb.out; omega)))
        have hzb : b4 ≤ wr.heap.size := by have := L8.out; omega
        clear hbel h8
        rcases hst with ⟨rfl, rfl, hq⟩ | ⟨rfl, rfl, hq⟩ | ⟨rfl, rfl, hq⟩
        · have HQ := Lib.hid hq; clear hq
          have f8 : wr.cell? ⟨b8, 0, none⟩ = some (.func (.func 134) #[.agg #[.slice A1 ss.length c1, .slice A2 ps.length c2, .int .i64 fz, .bool off, .int .i64 0]] #[]) := by rw [cell_of_row _ _ _ _ _ _ H8.out]; rfl
          go_wp2_with fail
          clear f8
          refine (C0.out wr HBw.out).mono ?_
          rintro e w4 ⟨rfl, g⟩
          have G5 : Hid (Below b4 w2 (w4.alloc (.cells #[.int .i64 0, .int .i64 0, .int .i64 0, .int .i64 0] 39))) := Lib.hid ((HB.out.trans (g.mono hzb)).alloc (Nat.le_trans hzb g.size) _)
          have Q5 : Hid ((w4.alloc (.cells #[.int .i64 0, .int .i64 0, .int .i64 0, .int .i64 0] 39)).heap[b4]? = some (.cells #[.int .i64 0, .int .i64 0, .int .i64 0, .int .i64 0] 39 (0, 0))) := Lib.hid (by rw [Below.heap_alloc _ _ _ (by have := L8.out; have := g.size; omega)]; exact (g.block _ (by have := L8.out; omega)).trans HQ.out)
          have F5 : Hid ((w4.alloc (.cells #[.int .i64 0, .int .i64 0, .int .i64 0, .int .i64 0] 39)).heap[b8]? = some (.cells #[.func (.func 134) #[.agg #[.slice A1 ss.length c1, .slice A2 ps.length c2, .int .i64 fz, .bool off, .int .i64 0]] #[], .func (.func 134) #[.agg #[.slice A1 ss.length c1, .slice A2 ps.length c2, .int .i64 fz, .bool off, .int .i64 1]] #[]] 179 (0, 0))) := Lib.hid (by rw [Below.heap_alloc _ _ _ (by have := g.size; omega)]; exact (g.block _ hz).trans H8.out)
          have S5 : Hid ((w4.alloc (.cells #[.int .i64 0, .int .i64 0, .int .i64 0, .int .i64 0] 39)).heap[w4.heap.size]? = some (.cells #[.int .i64 0, .int .i64 0, .int .i64 0, .int .i64 0] 39 (0, 0))) := Lib.hid (heap_alloc_new w4 _)
          have Z5 : Hid (b8 < (w4.alloc (.cells #[.int .i64 0, .int .i64 0, .int .i64 0, .int .i64 0] 39)).heap.size) := Lib.hid (by have := g.size; simp; omega)
          clear g
          have m0 : (w4.alloc (.cells #[.int .i64 0, .int .i64 0, .int .i64 0, .int .i64 0] 39)).cell? ⟨w4.heap.size, 0, none⟩ = some (.int .i64 0) := by rw [cell_of_row _ _ _ _ _ _ S5.out]; rfl
          have m1 : (w4.alloc (.cells #[.int .i64 0, .int .i64 0, .int .i64 0, .int .i64 0] 39)).cell? ⟨w4.heap.size, 1, none⟩ = some (.int .i64 0) := by rw [cell_of_row _ _ _ _ _ _ S5.out]; rfl
          have m2 : (w4.alloc (.cells #[.int .i64 0, .int .i64 0, .int .i64 0, .int .i64 0] 39)).cell? ⟨w4.heap.size, 2, none⟩ = some (.int .i64 0) := by rw [cell_of_row _ _ _ _ _ _ S5.out]; rfl
          have m3 : (w4.alloc (.cells #[.int .i64 0, .int .i64 0, .int .i64 0, .int .i64 0] 39)).cell? ⟨w4.heap.size, 3, none⟩ = some (.int .i64 0) := by rw [cell_of_row _ _ _ _ _ _ S5.out]; rfl
          have n3 : (w4.alloc (.cells #[.int .i64 0, .int .i64 0, .int .i64 0, .int .i64 0] 39)).cell? ⟨b4, 3, none⟩ = some (.int .i64 0) := by rw [cell_of_row _ _ _ _ _ _ Q5.out]; rfl
          go_wp2_with fail
          go_roundw
          case rel => exact ⟨.inr (.inl ⟨rfl, rfl, Q5.out⟩), G5.out, F5.out, Z5.out⟩
          case measure => simp [intOf]
        · have HQ := Lib.hid hq; clear hq
          have f8 : wr.cell? ⟨b8, 1, none⟩ = some (.func (.func 134) #[.agg #[.slice A1 ss.length c1, .slice A2 ps.length c2, .int .i64 fz, .bool off, .int .i64 1]] #[]) := by rw [cell_of_row _ _ _ _ _ _ H8.out]; rfl
          go_wp2_with fail
          clear f8
          refine (C1.out wr HBw.out).mono ?_
          rintro e w4 ⟨rfl, g⟩
          have G5 : Hid (Below b4 w2 (w4.alloc (.cells #[.int .i64 u0, .int .i64 u1, .int .i64 u2, .int .i64 t1] 39))) := Lib.hid ((HB.out.trans (g.mono hzb)).alloc (Nat.le_trans hzb g.size) _)
          have Q5 : Hid ((w4.alloc (.cells #[.int .i64 u0, .int .i64 u1, .int .i64 u2, .int .i64 t1] 39)).heap[b4]? = some (.cells #[.int .i64 0, .int .i64 0, .int .i64 0, .int .i64 0] 39 (0, 0))) := Lib.hid (by rw [Below.heap_alloc _ _ _ (by have := L8.out; have := g.size; omega)]; exact (g.block _ (by have := L8.out; omega)).trans HQ.out)
          have F5 : Hid ((w4.alloc (.cells #[.int .i64 u0, .int .i64 u1, .int .i64 u2, .int .i64 t1] 39)).heap[b8]? = some (.cells #[.func (.func 134) #[.agg #[.slice A1 ss.length c1, .slice A2 ps.length c2, .int .i64 fz, .bool off, .int .i64 0]] #[], .func (.func 134) #[.agg #[.slice A1 ss.length c1, .slice A2 ps.length c2, .int .i64 fz, .bool off, .int .i64 1]] #[]] 179 (0, 0))) := Lib.hid (by rw [Below.heap_alloc _ _ _ (by have := g.size; omega)]; exact (g.block _ hz).trans H8.out)
          have S5 : Hid ((w4.alloc (.cells #[.int .i64 u0, .int .i64 u1, .int .i64 u2, .int .i64 t1] 39)).heap[w4.heap.size]? = some (.cells #[.int .i64 u0, .int .i64 u1, .int .i64 u2, .int .i64 t1] 39 (0, 0))) := Lib.hid (heap_alloc_new w4 _)
          have Z5 : Hid (b8 < (w4.alloc (.cells #[.int .i64 u0, .int .i64 u1, .int .i64 u2, .int .i64 t1] 39)).heap.size) := Lib.hid (by have := g.size; simp; omega)
          clear g
          have m0 : (w4.alloc (.cells #[.int .i64 u0, .int .i64 u1, .int .i64 u2, .int .i64 t1] 39)).cell? ⟨w4.heap.size, 0, none⟩ = some (.int .i64 u0) := by rw [cell_of_row _ _ _ _ _ _ S5.out]; rfl
          have m1 : (w4.alloc (.cells #[.int .i64 u0, .int .i64 u1, .int .i64 u2, .int .i64 t1] 39)).cell? ⟨w4.heap.size, 1, none⟩ = some (.int .i64 u1) := by rw [cell_of_row _ _ _ _ _ _ S5.out]; rfl
          have m2 : (w4.alloc (.cells #[.int .i64 u0, .int .i64 u1, .int .i64 u2, .int .i64 t1] 39)).cell? ⟨w4.heap.size, 2, none⟩ = some (.int .i64 u2) := by rw [cell_of_row _ _ _ _ _ _ S5.out]; rfl
          have m3 : (w4.alloc (.cells #[.int .i64 u0, .int .i64 u1, .int .i64 u2, .int .i64 t1] 39)).cell? ⟨w4.heap.size, 3, none⟩ = some (.int .i64 t1) := by rw [cell_of_row _ _ _ _ _ _ S5.out]; rfl
          have n3 : (w4.alloc (.cells #[.int .i64 u0, .int .i64 u1, .int .i64 u2, .int .i64 t1] 39)).cell? ⟨b4, 3, none⟩ = some (.int .i64 0) := by rw [cell_of_row _ _ _ _ _ _ Q5.out]; rfl
          have Q6 : Hid (((w4.alloc (.cells #[.int .i64 u0, .int .i64 u1, .int .i64 u2, .int .i64 t1] 39)).setRow b4 #[.int .i64 u0, .int .i64 u1, .int .i64 u2, .int .i64 t1]).heap[b4]? = some (.cells #[.int .i64 u0, .int .i64 u1, .int .i64 u2, .int .i64 t1] 39 (0, 0))) := Lib.hid (setRow_heap _ _ _ _ _ _ Q5.out)
          have F6 : Hid (((w4.alloc (.cells #[.int .i64 u0, .int .i64 u1, .int .i64 u2, .int .i64 t1] 39)).setRow b4 #[.int .i64 u0, .int .i64 u1, .int .i64 u2, .int .i64 t1]).heap[b8]? = some (.cells #[.func (.func 134) #[.agg #[.slice A1 ss.length c1, .slice A2 ps.length c2, .int .i64 fz, .bool off, .int .i64 0]] #[], .func (.func 134) #[.agg #[.slice A1 ss.length c1, .slice A2 ps.length c2, .int .i64 fz, .bool off, .int .i64 1]] #[]] 179 (0, 0))) := Lib.hid ((setRow_other _ _ _ _ (by have := L8.out; omega)).trans F5.out)
          have G6 : Hid (Below b4 w2 ((w4.alloc (.cells #[.int .i64 u0, .int .i64 u1, .int .i64 u2, .int .i64 t1] 39)).setRow b4 #[.int .i64 u0, .int .i64 u1, .int .i64 u2, .int .i64 t1])) := Lib.hid (below_setRow G5.out (Nat.le_refl _) _)
          have Z6 : Hid (b8 < ((w4.alloc (.cells #[.int .i64 u0, .int .i64 u1, .int .i64 u2, .int .i64 t1] 39)).setRow b4 #[.int .i64 u0, .int .i64 u1, .int .i64 u2, .int .i64 t1]).heap.size) := Lib.hid (by rw [setRow_size]; exact Z5.out)
          go_wp2_with (refine wpList_store_row rfl 39 (.tmp 4) (.tmp 48) rfl b4 #[.int .i64 u0, .int .i64 u1, .int .i64 u2, .int .i64 t1] rfl rfl 39 _ Q5.out (infoS4 _ _ _ _) rfl oneS4 ?_)
          go_roundw
          case rel => exact ⟨.inr (.inr ⟨rfl, rfl, Q6.out⟩), G6.out, F6.out, Z6.out⟩
          case measure => simp [intOf]
        · have HQ := Lib.hid hq; clear hq
          have m0 : wr.cell? ⟨b4, 0, none⟩ = some (.int .i64 u0) := by rw [cell_of_row _ _ _ _ _ _ HQ.out]; rfl
          have m1 : wr.cell? ⟨b4, 1, none⟩ = some (.int .i64 u1) := by rw [cell_of_row _ _ _ _ _ _ HQ.out]; rfl
          have m2 : wr.cell? ⟨b4, 2, none⟩ = some (.int .i64 u2) := by rw [cell_of_row _ _ _ _ _ _ HQ.out]; rfl
          have m3 : wr.cell? ⟨b4, 3, none⟩ = some (.int .i64 t1) := by rw [cell_of_row _ _ _ _ _ _ HQ.out]; rfl
          have RR := Lib.hid ((HB.out.block _ (by have := Lb.out; omega)).trans R2.out)
          go_wp2_with (refine wpList_store_row rfl 39 (.tmp 2) (.tmp 50) rfl (w.heap.size + 1) #[.int .i64 u0, .int .i64 u1, .int .i64 u2, .int .i64 t1] rfl rfl 39 _ RR.out (infoS4 _ _ _ _) rfl oneS4 ?_)
          refine bodyPost_ret (v := .tuple #[.agg #[.int .i64 u0, .int .i64 u1, .int .i64 u2, .int .i64 t1], .int .i64 0]) ?_ rfl ?_
          · exact results_cell_row2 rfl _ _ (w.heap.size + 1) 39 _ (0, 0) _ _ rfl rfl (setRow_heap _ _ _ _ _ _ RR.out) Try.underlying39 rfl (by kernel_rfl)
          · exact ⟨by rw [Hf.out.1, Hf.out.2], below_setRow HBw.out (Nat.le_succ _) _⟩
  rcases q1 with ⟨rfl, rfl⟩ | ⟨rfl, e1, u0, u1, u2, rfl⟩
  · skip
    have Hf : Hid (RA = #[.int .i64 x0, .int .i64 x1, .int .i64 x2, .int .i64 t0] ∧ RC = 0) := Lib.hid (by
      have h : RW = 0 := by rw [HW.out]; simp
      exact ⟨by rw [HA.out, h]; rfl, by rw [HC.out, h]; rfl⟩)
    clear HA HC HW
    go_loopw [5, 27] (fun cv iv wr => ((iv = .int .i64 0 ∧ cv = .int .i64 10 ∧ wr.heap[b4]? = some (.cells #[.int .i64 0, .int .i64 0, .int .i64 0, .int .i64 0] 39 (0, 0))) ∨ (iv = .int .i64 1 ∧ cv = .int .i64 0 ∧ wr.heap[b4]? = some (.cells #[.int .i64 x0, .int .i64 x1, .int .i64 x2, .int .i64 t0] 39 (0, 0))) ∨ (iv = .int .i64 2 ∧ cv = .int .i64 0 ∧ wr.heap[b4]? = some (.cells #[.int .i64 x0, .int .i64 x1, .int .i64 x2, .int .i64 t0] 39 (0, 0)))) ∧ Below b4 w2 wr ∧ wr.heap[b8]? = some (.cells #[.func (.func 134) #[.agg #[.slice A1 ss.length c1, .slice A2 ps.length c2, .int .i64 fz, .bool off, .int .i64 0]] #[], .func (.func 134) #[.agg #[.slice A1 ss.length c1, .slice A2 ps.length c2, .int .i64 fz, .bool off, .int .i64 1]] #[]] 179 (0, 0)) ∧ b8 < wr.heap.size) (fun _ iv _ => 2 - (intOf iv).toNat)
    case atStart => exact ⟨.inl ⟨rfl, rfl, Q8.out⟩, G8.out, F8.out, Z8.out⟩
    case round =>
      obtain ⟨hst, hbel, h8, hz⟩ := hrel
      have HB := Lib.hid hbel; have H8 := Lib.hid h8
      have HBw := Lib.hid (Hb2.out.trans (hbel.mono (by have := Lb.out; omega)))
      have hzb : b4 ≤ wr.heap.size := by have := L8.out; omega
      clear hbel h8
      rcases hst with ⟨rfl, rfl, hq⟩ | ⟨rfl, rfl, hq⟩ | ⟨rfl, rfl, hq⟩
      · have HQ := Lib.hid hq; clear hq
        have f8 : wr.cell? ⟨b8, 0, none⟩ = some (.func (.func 134) #[.agg #[.slice A1 ss.length c1, .slice A2 ps.length c2, .int .i64 fz, .bool off, .int .i64 0]] #[]) := by rw [cell_of_row _ _ _ _ _ _ H8.out]; rfl
        go_wp2_with fail
        clear f8
        refine (C0.out wr HBw.out).mono ?_
        rintro e w4 ⟨rfl, g⟩
        have G5 : Hid (Below b4 w2 (w4.alloc (.cells #[.int .i64 x0, .int .i64 x1, .int .i64 x2, .int .i64 t0] 39))) := Lib.hid ((HB.out.trans (g.mono hzb)).alloc (Nat.le_trans hzb g.size) _)
        have Q5 : Hid ((w4.alloc (.cells #[.int .i64 x0, .int .i64 x1, .int .i64 x2, .int .i64 t0] 39)).heap[b4]? = some (.cells #[.int .i64 0, .int .i64 0, .int .i64 0, .int .i64 0] 39 (0, 0))) := Lib.hid (by rw [Below.heap_alloc _ _ _ (by have := L8.out; have := g.size; omega)]; exact (g.block _ (by have := L8.out; omega)).trans HQ.out)
        have F5 : Hid ((w4.alloc (.cells #[.int .i64 x0, .int .i64 x1, .int .i64 x2, .int .i64 t0] 39)).heap[b8]? = some (.cells #[.func (.func 134) #[.agg #[.slice A1 ss.length c1, .slice A2 ps.length c2, .int .i64 fz, .bool off, .int .i64 0]] #[], .func (.func 134) #[.agg #[.slice A1 ss.length c1, .slice A2 ps.length c2, .int .i64 fz, .bool off, .int .i64 1]] #[]] 179 (0, 0))) := Lib.hid (by rw [Below.heap_alloc _ _ _ (by have := g.size; omega)]; exact (g.block _ hz).trans H8.out)
        have S5 : Hid ((w4.alloc (.cells #[.int .i64 x0, .int .i64 x1, .int .i64 x2, .int .i64 t0] 39)).heap[w4.heap.size]? = some (.cells #[.int .i64 x0, .int .i64 x1, .int .i64 x2, .int .i64 t0] 39 (0, 0))) := Lib.hid (heap_alloc_new w4 _)
        have Z5 : Hid (b8 < (w4.alloc (.cells #[.int .i64 x0, .int .i64 x1, .int .i64 x2, .int .i64 t0] 39)).heap.size) := Lib.hid (by have := g.size; simp; omega)
        clear g
        have m0 : (w4.alloc (.cells #[.int .i64 x0, .int .i64 x1, .int .i64 x2, .int .i64 t0] 39)).cell? ⟨w4.heap.size, 0, none⟩ = some (.int .i64 x0) := by rw [cell_of_row _ _ _ _ _ _ S5.out]; rfl
        have m1 : (w4.alloc (.cells #[.int .i64 x0, .int .i64 x1, .int .i64 x2, .int .i64 t0] 39)).cell? ⟨w4.heap.size, 1, none⟩ = some (.int .i64 x1) := by rw [cell_of_row _ _ _ _ _ _ S5.out]; rfl
        have m2 : (w4.alloc (.cells #[.int .i64 x0, .int .i64 x1, .int .i64 x2, .int .i64 t0] 39)).cell? ⟨w4.heap.size, 2, none⟩ = some (.int .i64 x2) := by rw [cell_of_row _ _ _ _ _ _ S5.out]; rfl
        have m3 : (w4.alloc (.cells #[.int .i64 x0, .int .i64 x1, .int .i64 x2, .int .i64 t0] 39)).cell? ⟨w4.heap.size, 3, none⟩ = some (.int .i64 t0) := by rw [cell_of_row _ _ _ _ _ _ S5.out]; rfl
        have n3 : (w4.alloc (.cells #[.int .i64 x0, .int .i64 x1, .int .i64 x2, .int .i64 t0] 39)).cell? ⟨b4, 3, none⟩ = some (.int .i64 0) := by rw [cell_of_row _ _ _ _ _ _ Q5.out]; rfl
        have Q6 : Hid (((w4.alloc (.cells #[.int .i64 x0, .int .i64 x1, .int .i64 x2, .int .i64 t0] 39)).setRow b4 #[.int .i64 x0, .int .i64 x1, .int .i64 x2, .int .i64 t0]).heap[b4]? = some (.cells #[.int .i64 x0, .int .i64 x1, .int .i64 x2, .int .i64 t0] 39 (0, 0))) := Lib.hid (setRow_heap _ _ _ _ _ _ Q5.out)
        have F6 : Hid (((w4.alloc (.cells #[.int .i64 x0, .int .i64 x1, .int .i64 x2, .int .i64 t0] 39)).setRow b4 #[.int .i64 x0, .int .i64 x1, .int .i64 x2, .int .i64 t0]).heap[b8]? = some (.cells #[.func (.func 134) #[.agg #[.slice A1 ss.length c1, .slice A2 ps.length c2, .int .i64 fz, .bool off, .int .i64 0]] #[], .func (.func 134) #[.agg #[.slice A1 ss.length c1, .slice A2 ps.length c2, .int .i64 fz, .bool off, .int .i64 1]] #[]] 179 (0, 0))) := Lib.hid ((setRow_other _ _ _ _ (by have := L8.out; omega)).trans F5.out)
        have G6 : Hid (Below b4 w2 ((w4.alloc (.cells #[.int .i64 x0, .int .i64 x1, .int .i64 x2, .int .i64 t0] 39)).setRow b4 #[.int .i64 x0, .int .i64 x1, .int .i64 x2, .int .i64 t0])) := Lib.hid (below_setRow G5.out (Nat.le_refl _) _)
        have Z6 : Hid (b8 < ((w4.alloc (.cells #[.int .i64 x0, .int .i64 x1, .int .i64 x2, .int .i64 t0] 39)).setRow b4 #[.int .i64 x0, .int .i64 x1, .int .i64 x2, .int .i64 t0]).heap.size) := Lib.hid (by rw [setRow_size]; exact Z5.out)
        go_wp2_with (refine wpList_store_row rfl 39 (.tmp 4) (.tmp 48) rfl b4 #[.int .i64 x0, .int .i64 x1, .int .i64 x2, .int .i64 t0] rfl rfl 39 _ Q5.out (infoS4 _ _ _ _) rfl oneS4 ?_)
        go_roundw
        case rel => exact ⟨.inr (.inl ⟨rfl, rfl, Q6.out⟩), G6.out, F6.out, Z6.out⟩
        case measure => simp [intOf]
      · have HQ := Lib.hid hq; clear hq
        have f8 : wr.cell? ⟨b8, 1, none⟩ = some (.func (.func 134) #[.agg #[.slice A1 ss.length c1, .slice A2 ps.length c2, .int .i64 fz, .bool off, .int .i64 1]] #[]) := by rw [cell_of_row _ _ _ _ _ _ H8.out]; rfl
        go_wp2_with fail
        clear f8
        refine (C1.out wr HBw.out).mono ?_
        rintro e w4 ⟨rfl, g⟩
        have G5 : Hid (Below b4 w2 (w4.alloc (.cells #[.int .i64 0, .int .i64 0, .int .i64 0, .int .i64 0] 39))) := Lib.hid ((HB.out.trans (g.mono hzb)).alloc (Nat.le_trans hzb g.size) _)
        have Q5 : Hid ((w4.alloc (.cells #[.int .i64 0, .int .i64 0, .int .i64 0, .int .i64 0] 39)).heap[b4]? = some (.cells #[.int .i64 x0, .int .i64 x1, .int .i64 x2, .int .i64 t0] 39 (0, 0))) := Lib.hid (by rw [Below.heap_alloc _ _ _ (by have := L8.out; have := g.size; omega)]; exact (g.block _ (by have := L8.out; omega)).trans HQ.out)
        have F5 : Hid ((w4.alloc (.cells #[.int .i64 0, .int .i64 0, .int .i64 0, .int .i64 0] 39)).heap[b8]? = some (.cells #[.func (.func 134) #[.agg #[.slice A1 ss.length c1, .slice A2 ps.length c2, .int .i64 fz, .bool off, .int .i64 0]] #[], .func (.func 134) #[.agg #[.slice A1 ss.length c1, .slice A2 ps.length c2, .int .i64 fz, .bool off, .int .i64 1]] #[]] 179 (0, 0))) := Lib.hid (by rw [Below.heap_alloc _ _ _ (by have := g.size; omega)]; exact (g.block _ hz).trans H8.out)
        have S5 : Hid ((w4.alloc (.cells #[.int .i64 0, .int .i64 0, .int .i64 0, .int .i64 0] 39)).heap[w4.heap.size]? = some (.cells #[.int .i64 0, .int .i64 0, .int .i64 0, .int .i64 0] 39 (0, 0))) := Lib.hid (heap_alloc_new w4 _)
        have Z5 : Hid (b8 < (w4.alloc (.cells #[.int .i64 0, .int .i64 0, .int .i64 0, .int .i64 0] 39)).heap.size) := Lib.hid (by have := g.size; simp; omega)
        clear g
        have m0 : (w4.alloc (.cells #[.int .i64 0, .int .i64 0, .int .i64 0, .int .i64 0] 39)).cell? ⟨w4.heap.size, 0, none⟩ = some (.int .i64 0) := by rw [cell_of_row _ _ _ _ _ _ S5.out]; rfl
        have m1 : (w4.alloc (.cells #[.int .i64 0, .int .i64 0, .int .i64 0, .int .i64 0] 39)).cell? ⟨w4.heap.size, 1, none⟩ = some (.int .i64 0) := by rw [cell_of_row _ _ _ _ _ _ S5.out]; rfl
        have m2 : (w4.alloc (.cells #[.int .i64 0, .int .i64 0, .int .i64 0, .int .i64 0] 39)).cell? ⟨w4.heap.size, 2, none⟩ = some (.int .i64 0) := by rw [cell_of_row _ _ _ _ _ _ S5.out]; rfl
        have m3 : (w4.alloc (.cells #[.int .i64 0, .int .i64 0, .int .i64 0, .int .i64 0] 39)).cell? ⟨w4.heap.size, 3, none⟩ = some (.int .i64 0) := by rw [cell_of_row _ _ _ _ _ _ S5.out]; rfl
        have n3 : (w4.alloc (.cells #[.int .i64 0, .int .i64 0, .int .i64 0, .int .i64 0] 39)).cell? ⟨b4, 3, none⟩ = some (.int .i64 t0) := by rw [cell_of_row _ _ _ _ _ _ Q5.out]; rfl
        go_wp2_with fail
        go_roundw
        case rel => exact ⟨.inr (.inr ⟨rfl, rfl, Q5.out⟩), G5.out, F5.out, Z5.out⟩
        case measure => simp [intOf]
      · have HQ := Lib.hid hq; clear hq
        have m0 : wr.cell? ⟨b4, 0, none⟩ = some (.int .i64 x0) := by rw [cell_of_row _ _ _ _ _ _ HQ.out]; rfl
        have m1 : wr.cell? ⟨b4, 1, none⟩ = some (.int .i64 x1) := by rw [cell_of_row _ _ _ _ _ _ HQ.out]; rfl
        have m2 : wr.cell? ⟨b4, 2, none⟩ = some (.int .i64 x2) := by rw [cell_of_row _ _ _ _ _ _ HQ.out]; rfl
        have m3 : wr.cell? ⟨b4, 3, none⟩ = some (.int .i64 t0) := by rw [cell_of_row _ _ _ _ _ _ HQ.out]; rfl
        have RR := Lib.hid ((HB.out.block _ (by have := Lb.out; omega)).trans R2.out)
        go_wp2_with (refine wpList_store_row rfl 39 (.tmp 2) (.tmp 50) rfl (w.heap.size + 1) #[.int .i64 x0, .int .i64 x1, .int .i64 x2, .int .i64 t0] rfl rfl 39 _ RR.out (infoS4 _ _ _ _) rfl oneS4 ?_)
        refine bodyPost_ret (v := .tuple #[.agg #[.int .i64 x0, .int .i64 x1, .int .i64 x2, .int .i64 t0], .int .i64 0]) ?_ rfl ?_
        · exact results_cell_row2 rfl _ _ (w.heap.size + 1) 39 _ (0, 0) _ _ rfl rfl (setRow_heap _ _ _ _ _ _ RR.out) Try.underlying39 rfl (by kernel_rfl)
        · exact ⟨by rw [Hf.out.1, Hf.out.2], below_setRow HBw.out (Nat.le_succ _) _⟩
  by_cases ht : t1 < t0
  · have dt : decide (t1 > t0) = false := decide_eq_false (by omega)
    have Hf : Hid (RA = #[.int .i64 x0, .int .i64 x1, .int .i64 x2, .int .i64 t0] ∧ RC = 0) := Lib.hid (by
      have h : RW = 0 := by rw [HW.out]; simp [ht]
      exact ⟨by rw [HA.out, h]; rfl, by rw [HC.out, h]; rfl⟩)
    clear HA HC HW
    go_loopw [5, 27] (fun cv iv wr => ((iv = .int .i64 0 ∧ cv = .int .i64 10 ∧ wr.heap[b4]? = some (.cells #[.int .i64 0, .int .i64 0, .int .i64 0, .int .i64 0] 39 (0, 0))) ∨ (iv = .int .i64 1 ∧ cv = .int .i64 0 ∧ wr.heap[b4]? = some (.cells #[.int .i64 x0, .int .i64 x1, .int .i64 x2, .int .i64 t0] 39 (0, 0))) ∨ (iv = .int .i64 2 ∧ cv = .int .i64 0 ∧ wr.heap[b4]? = some (.cells #[.int .i64 x0, .int .i64 x1, .int .i64 x2, .int .i64 t0] 39 (0, 0)))) ∧ Below b4 w2 wr ∧ wr.heap[b8]? = some (.cells #[.func (.func 134) #[.agg #[.slice A1 ss.length c1, .slice A2 ps.length c2, .int .i64 fz, .bool off, .int .i64 0]] #[], .func (.func 134) #[.agg #[.slice A1 ss.length c1, .slice A2 ps.length c2, .int .i64 fz, .bool off, .int .i64 1]] #[]] 179 (0, 0)) ∧ b8 < wr.heap.size) (fun _ iv _ => 2 - (intOf iv).toNat)
    case atStart => exact ⟨.inl ⟨rfl, rfl, Q8.out⟩, G8.out, F8.out, Z8.out⟩
    case round =>
      obtain ⟨hst, hbel, h8, hz⟩ := hrel
      have HB := Lib.hid hbel; have H8 := Lib.hid h8
      have HBw := Lib.hid (Hb2.out.trans (hbel.mono (by have := Lb.out; omega)))
      have hzb : b4 ≤ wr.heap.size := by have := L8.out; omega
      clear hbel h8
      rcases hst with ⟨rfl, rfl, hq⟩ | ⟨rfl, rfl, hq⟩ | ⟨rfl, rfl, hq⟩
      · have HQ := Lib.hid hq; clear hq
        have f8 : wr.cell? ⟨b8, 0, none⟩ = some (.func (.func 134) #[.agg #[.slice A1 ss.length c1, .slice A2 ps.length c2, .int .i64 fz, .bool off, .int .i64 0]] #[]) := by rw [cell_of_row _ _ _ _ _ _ H8.out]; rfl
        go_wp2_with fail
        clear f8
        refine (C0.out wr HBw.out).mono ?_
        rintro e w4 ⟨rfl, g⟩
        have G5 : Hid (Below b4 w2 (w4.alloc (.cells #[.int .i64 x0, .int .i64 x1, .int .i64 x2, .int .i64 t0] 39))) := Lib.hid ((HB.out.trans (g.mono hzb)).alloc (Nat.le_trans hzb g.size) _)
        have Q5 : Hid ((w4.alloc (.cells #[.int .i64 x0, .int .i64 x1, .int .i64 x2, .int .i64 t0] 39)).heap[b4]? = some (.cells #[.int .i64 0, .int .i64 0, .int .i64 0, .int .i64 0] 39 (0, 0))) := Lib.hid (by rw [Below.heap_alloc _ _ _ (by have := L8.out; have := g.size; omega)]; exact (g.block _ (by have := L8.out; omega)).trans HQ.out)
        have F5 : Hid ((w4.alloc (.cells #[.int .i64 x0, .int .i64 x1, .int .i64 x2, .int .i64 t0] 39)).heap[b8]? = some (.cells #[.func (.func 134) #[.agg #[.slice A1 ss.length c1, .slice A2 ps.length c2, .int .i64 fz, .bool off, .int .i64 0]] #[], .func (.func 134) #[.agg #[.slice A1 ss.length c1, .slice A2 ps.length c2, .int .i64 fz, .bool off, .int .i64 1]] #[]] 179 (0, 0))) := Lib.hid (by rw [Below.heap_alloc _ _ _ (by have := g.size; omega)]; exact (g.block _ hz).trans H8.out)
        have S5 : Hid ((w4.alloc (.cells #[.int .i64 x0, .int .i64 x1, .int .i64 x2, .int .i64 t0] 39)).heap[w4.heap.size]? = some (.cells #[.int .i64 x0, .int .i64 x1, .int .i64 x2, .int .i64 t0] 39 (0, 0))) := Lib.hid (heap_alloc_new w4 _)
        have Z5 : Hid (b8 < (w4.alloc (.cells #[.int .i64 x0, .int .i64 x1, .int .i64 x2, .int .i64 t0] 39)).heap.size) := Lib.hid (by have := g.size; simp; omega)
        clear g
        have m0 : (w4.alloc (.cells #[.int .i64 x0, .int .i64 x1, .int .i64 x2, .int .i64 t0] 39)).cell? ⟨w4.heap.size, 0, none⟩ = some (.int .i64 x0) := by rw [cell_of_row _ _ _ _ _ _ S5.out]; rfl
        have m1 : (w4.alloc (.cells #[.int .i64 x0, .int .i64 x1, .int .i64 x2, .int .i64 t0] 39)).cell? ⟨w4.heap.size, 1, none⟩ = some (.int .i64 x1) := by rw [cell_of_row _ _ _ _ _ _ S5.out]; rfl
        have m2 : (w4.alloc (.cells #[.int .i64 x0, .int .i64 x1, .int .i64 x2, .int .i64 t0] 39)).cell? ⟨w4.heap.size, 2, none⟩ = some (.int .i64 x2) := by rw [cell_of_row _ _ _ _ _ _ S5.out]; rfl
        have m3 : (w4.alloc (.cells #[.int .i64 x0, .int .i64 x1, .int .i64 x2, .int .i64 t0] 39)).cell? ⟨w4.heap.size, 3, none⟩ = some (.int .i64 t0) := by rw [cell_of_row _ _ _ _ _ _ S5.out]; rfl
        have n3 : (w4.alloc (.cells #[.int .i64 x0, .int .i64 x1, .int .i64 x2, .int .i64 t0] 39)).cell? ⟨b4, 3, none⟩ = some (.int .i64 0) := by rw [cell_of_row _ _ _ _ _ _ Q5.out]; rfl
        have Q6 : Hid (((w4.alloc (.cells #[.int .i64 x0, .int .i64 x1, .int .i64 x2, .int .i64 t0] 39)).setRow b4 #[.int .i64 x0, .int .i64 x1, .int .i64 x2, .int .i64 t0]).heap[b4]? = some (.cells #[.int .i64 x0, .int .i64 x1, .int .i64 x2, .int .i64 t0] 39 (0, 0))) := Lib.hid (setRow_heap _ _ _ _ _ _ Q5.out)
        have F6 : Hid (((w4.alloc (.cells #[.int .i64 x0, .int .i64 x1, .int .i64 x2, .int .i64 t0] 39)).setRow b4 #[.int .i64 x0, .int .i64 x1, .int .i64 x2, .int .i64 t0]).heap[b8]? = some (.cells #[.func (.func 134) #[.agg #[.slice A1 ss.length c1, .slice A2 ps.length c2, .int .i64 fz, .bool off, .int .i64 0]] #[], .func (.func 134) #[.agg #[.slice A1 ss.length c1, .slice A2 ps.length c2, .int .i64 fz, .bool off, .int .i64 1]] #[]] 179 (0, 0))) := Lib.hid ((setRow_other _ _ _ _ (by have := L8.out; omega)).trans F5.out)
        have G6 : Hid (Below b4 w2 ((w4.alloc (.cells #[.int .i64 x0, .int .i64 x1, .int .i64 x2, .int .i64 t0] 39)).setRow b4 #[.int .i64 x0, .int .i64 x1, .int .i64 x2, .int .i64 t0])) := Lib.hid (below_setRow G5.out (Nat.le_refl _) _)
        have Z6 : Hid (b8 < ((w4.alloc (.cells #[.int .i64 x0, .int .i64 x1, .int .i64 x2, .int .i64 t0] 39)).setRow b4 #[.int .i64 x0, .int .i64 x1, .int .i64 x2, .int .i64 t0]).heap.size) := Lib.hid (by rw [setRow_size]; exact Z5.out)
        go_wp2_with (refine wpList_store_row rfl 39 (.tmp 4) (.tmp 48) rfl b4 #[.int .i64 x0, .int .i64 x1, .int .i64 x2, .int .i64 t0] rfl rfl 39 _ Q5.out (infoS4 _ _ _ _) rfl oneS4 ?_)
        go_roundw
        case rel => exact ⟨.inr (.inl ⟨rfl, rfl, Q6.out⟩), G6.out, F6.out, Z6.out⟩
        case measure => simp [intOf]
      · have HQ := Lib.hid hq; clear hq
        have f8 : wr.cell? ⟨b8, 1, none⟩ = some (.func (.func 134) #[.agg #[.slice A1 ss.length c1, .slice A2 ps.length c2, .int .i64 fz, .bool off, .int .i64 1]] #[]) := by rw [cell_of_row _ _ _ _ _ _ H8.out]; rfl
        go_wp2_with fail
        clear f8
        refine (C1.out wr HBw.out).mono ?_
        rintro e w4 ⟨rfl, g⟩
        have G5 : Hid (Below b4 w2 (w4.alloc (.cells #[.int .i64 u0, .int .i64 u1, .int .i64 u2, .int .i64 t1] 39))) := Lib.hid ((HB.out.trans (g.mono hzb)).alloc (Nat.le_trans hzb g.size) _)
        have Q5 : Hid ((w4.alloc (.cells #[.int .i64 u0, .int .i64 u1, .int .i64 u2, .int .i64 t1] 39)).heap[b4]? = some (.cells #[.int .i64 x0, .int .i64 x1, .int .i64 x2, .int .i64 t0] 39 (0, 0))) := Lib.hid (by rw [Below.heap_alloc _ _ _ (by have := L8.out; have := g.size; omega)]; exact (g.block _ (by have := L8.out; omega)).trans HQ.out)
        have F5 : Hid ((w4.alloc (.cells #[.int .i64 u0, .int .i64 u1, .int .i64 u2, .int .i64 t1] 39)).heap[b8]? = some (.cells #[.func (.func 134) #[.agg #[.slice A1 ss.length c1, .slice A2 ps.length c2, .int .i64 fz, .bool off, .int .i64 0]] #[], .func (.func 134) #[.agg #[.slice A1 ss.length c1, .slice A2 ps.length c2, .int .i64 fz, .bool off, .int .i64 1]] #[]] 179 (0, 0))) := Lib.hid (by rw [Below.heap_alloc _ _ _ (by have := g.size; omega)]; exact (g.block _ hz).trans H8.out)
        have S5 : Hid ((w4.alloc (.cells #[.int .i64 u0, .int .i64 u1, .int .i64 u2, .int .i64 t1] 39)).heap[w4.heap.size]? = some (.cells #[.int .i64 u0, .int .i64 u1, .int .i64 u2, .int .i64 t1] 39 (0, 0))) := Lib.hid (heap_alloc_new w4 _)
        have Z5 : Hid (b8 < (w4.alloc (.cells #[.int .i64 u0, .int .i64 u1, .int .i64 u2, .int .i64 t1] 39)).heap.size) := Lib.hid (by have := g.size; simp; omega)
        clear g
        have m0 : (w4.alloc (.cells #[.int .i64 u0, .int .i64 u1, .int .i64 u2, .int .i64 t1] 39)).cell? ⟨w4.heap.size, 0, none⟩ = some (.int .i64 u0) := by rw [cell_of_row _ _ _ _ _ _ S5.out]; rfl
        have m1 : (w4.alloc (.cells #[.int .i64 u0, .int .i64 u1, .int .i64 u2, .int .i64 t1] 39)).cell? ⟨w4.heap.size, 1, none⟩ = some (.int .i64 u1) := by rw [cell_of_row _ _ _ _ _ _ S5.out]; rfl
        have m2 : (w4.alloc (.cells #[.int .i64 u0, .int .i64 u1, .int .i64 u2, .int .i64 t1] 39)).cell? ⟨w4.heap.size, 2, none⟩ = some (.int .i64 u2) := by rw [cell_of_row _ _ _ _ _ _ S5.out]; rfl
        have m3 : (w4.alloc (.cells #[.int .i64 u0, .int .i64 u1, .int .i64 u2, .int .i64 t1] 39)).cell? ⟨w4.heap.size, 3, none⟩ = some (.int .i64 t1) := by rw [cell_of_row _ _ _ _ _ _ S5.out]; rfl
        have n3 : (w4.alloc (.cells #[.int .i64 u0, .int .i64 u1, .int .i64 u2, .int .i64 t1] 39)).cell? ⟨b4, 3, none⟩ = some (.int .i64 t0) := by rw [cell_of_row _ _ _ _ _ _ Q5.out]; rfl
        go_wp2_with fail
        go_roundw
        case rel => exact ⟨.inr (.inr ⟨rfl, rfl, Q5.out⟩), G5.out, F5.out, Z5.out⟩
        case measure => simp [intOf]
      · have HQ := Lib.hid hq; clear hq
        have m0 : wr.cell? ⟨b4, 0, none⟩ = some (.int .i64 x0) := by rw [cell_of_row _ _ _ _ _ _ HQ.out]; rfl
        have m1 : wr.cell? ⟨b4, 1, none⟩ = some (.int .i64 x1) := by rw [cell_of_row _ _ _ _ _ _ HQ.out]; rfl
        have m2 : wr.cell? ⟨b4, 2, none⟩ = some (.int .i64 x2) := by rw [cell_of_row _ _ _ _ _ _ HQ.out]; rfl
        have m3 : wr.cell? ⟨b4, 3, none⟩ = some (.int .i64 t0) := by rw [cell_of_row _ _ _ _ _ _ HQ.out]; rfl
        have RR := Lib.hid ((HB.out.block _ (by have := Lb.out; omega)).trans R2.out)
        go_wp2_with (refine wpList_store_row rfl 39 (.tmp 2) (.tmp 50) rfl (w.heap.size + 1) #[.int .i64 x0, .int .i64 x1, .int .i64 x2, .int .i64 t0] rfl rfl 39 _ RR.out (infoS4 _ _ _ _) rfl oneS4 ?_)
        refine bodyPost_ret (v := .tuple #[.agg #[.int .i64 x0, .int .i64 x1, .int .i64 x2, .int .i64 t0], .int .i64 0]) ?_ rfl ?_
        · exact results_cell_row2 rfl _ _ (w.heap.size + 1) 39 _ (0, 0) _ _ rfl rfl (setRow_heap _ _ _ _ _ _ RR.out) Try.underlying39 rfl (by kernel_rfl)
        · exact ⟨by rw [Hf.out.1, Hf.out.2], below_setRow HBw.out (Nat.le_succ _) _⟩
  have hne : t0 < t1 := by omega
  have dt : decide (t1 > t0) = true := decide_eq_true hne
  have Hf : Hid (RA = #[.int .i64 u0, .int .i64 u1, .int .i64 u2, .int .i64 t1] ∧ RC = 0) := Lib.hid (by
    have h : RW = 1 := by rw [HW.out]; simp [ht]
    exact ⟨by rw [HA.out, h]; rfl, by rw [HC.out, h]; rfl⟩)
  clear HA HC HW
  go_loopw [5, 27] (fun cv iv wr => ((iv = .int .i64 0 ∧ cv = .int .i64 10 ∧ wr.heap[b4]? = some (.cells #[.int .i64 0, .int .i64 0, .int .i64 0, .int .i64 0] 39 (0, 0))) ∨ (iv = .int .i64 1 ∧ cv = .int .i64 0 ∧ wr.heap[b4]? = some (.cells #[.int .i64 x0, .int .i64 x1, .int .i64 x2, .int .i64 t0] 39 (0, 0))) ∨ (iv = .int .i64 2 ∧ cv = .int .i64 0 ∧ wr.heap[b4]? = some (.cells #[.int .i64 u0, .int .i64 u1, .int .i64 u2, .int .i64 t1] 39 (0, 0)))) ∧ Below b4 w2 wr ∧ wr.heap[b8]? = some (.cells #[.func (.func 134) #[.agg #[.slice A1 ss.length c1, .slice A2 ps.length c2, .int .i64 fz, .bool off, .int .i64 0]] #[], .func (.func 134) #[.agg #[.slice A1 ss.length c1, .slice A2 ps.length c2, .int .i64 fz, .bool off, .int .i64 1]] #[]] 179 (0, 0)) ∧ b8 < wr.heap.size) (fun _ iv _ => 2 - (intOf iv).toNat)
  case atStart => exact ⟨.inl ⟨rfl, rfl, Q8.out⟩, G8.out, F8.out, Z8.out⟩
  case round =>
    obtain ⟨hst, hbel, h8, hz⟩ := hrel
    have HB := Lib.hid hbel; have H8 := Lib.hid h8
    have HBw := Lib.hid (Hb2.out.trans (hbel.mono (by have := Lb.out; omega)))
    have hzb : b4 ≤ wr.heap.size := by have := L8.out; omega
    clear hbel h8
    rcases hst with ⟨rfl, rfl, hq⟩ | ⟨rfl, rfl, hq⟩ | ⟨rfl, rfl, hq⟩
    · have HQ := Lib.hid hq; clear hq
      have f8 : wr.cell? ⟨b8, 0, none⟩ = some (.func (.func 134) #[.agg #[.slice A1 ss.length c1, .slice A2 ps.length c2, .int .i64 fz, .bool off, .int .i64 0]] #[]) := by rw [cell_of_row _ _ _ _ _ _ H8.out]; rfl
      go_wp2_with fail
      clear f8
      refine (C0.out wr HBw.out).mono ?_
      rintro e w4 ⟨rfl, g⟩
      have G5 : Hid (Below b4 w2 (w4.alloc (.cells #[.int .i64 x0, .int .i64 x1, .int .i64 x2, .int .i64 t0] 39))) := Lib.hid ((HB.out.trans (g.mono hzb)).alloc (Nat.le_trans hzb g.size) _)
      have Q5 : Hid ((w4.alloc (.cells #[.int .i64 x0, .int .i64 x1, .int .i64 x2, .int .i64 t0] 39)).heap[b4]? = some (.cells #[.int .i64 0, .int .i64 0, .int .i64 0, .int .i64 0] 39 (0, 0))) := Lib.hid (by rw [Below.heap_alloc _ _ _ (by have := L8.out; have := g.size; omega)]; exact (g.block _ (by have := L8.out; omega)).trans HQ.out)
      have F5 : Hid ((w4.alloc (.cells #[.int .i64 x0, .int .i64 x1, .int .i64 x2, .int .i64 t0] 39)).heap[b8]? = some (.cells #[.func (.func 134) #[.agg #[.slice A1 ss.length c1, .slice A2 ps.length c2, .int .i64 fz, .bool off, .int .i64 0]] #[], .func (.func 134) #[.agg #[.slice A1 ss.length c1, .slice A2 ps.length c2, .int .i64 fz, .bool off, .int .i64 1]] #[]] 179 (0, 0))) := Lib.hid (by rw [Below.heap_alloc _ _ _ (by have := g.size; omega)]; exact (g.block _ hz).trans H8.out)
      have S5 : Hid ((w4.alloc (.cells #[.int .i64 x0, .int .i64 x1, .int .i64 x2, .int .i64 t0] 39)).heap[w4.heap.size]? = some (.cells #[.int .i64 x0, .int .i64 x1, .int .i64 x2, .int .i64 t0] 39 (0, 0))) := Lib.hid (heap_alloc_new w4 _)
      have Z5 : Hid (b8 < (w4.alloc (.cells #[.int .i64 x0, .int .i64 x1, .int .i64 x2, .int .i64 t0] 39)).heap.size) := Lib.hid (by have := g.size; simp; omega)
      clear g
      have m0 : (w4.alloc (.cells #[.int .i64 x0, .int .i64 x1, .int .i64 x2, .int .i64 t0] 39)).cell? ⟨w4.heap.size, 0, none⟩ = some (.int .i64 x0) := by rw [cell_of_row _ _ _ _ _ _ S5.out]; rfl
      have m1 : (w4.alloc (.cells #[.int .i64 x0, .int .i64 x1, .int .i64 x2, .int .i64 t0] 39)).cell? ⟨w4.heap.size, 1, none⟩ = some (.int .i64 x1) := by rw [cell_of_row _ _ _ _ _ _ S5.out]; rfl
      have m2 : (w4.alloc (.cells #[.int .i64 x0, .int .i64 x1, .int .i64 x2, .int .i64 t0] 39)).cell? ⟨w4.heap.size, 2, none⟩ = some (.int .i64 x2) := by rw [cell_of_row _ _ _ _ _ _ S5.out]; rfl
      have m3 : (w4.alloc (.cells #[.int .i64 x0, .int .i64 x1, .int .i64 x2, .int .i64 t0] 39)).cell? ⟨w4.heap.size, 3, none⟩ = some (.int .i64 t0) := by rw [cell_of_row _ _ _ _ _ _ S5.out]; rfl
      have n3 : (w4.alloc (.cells #[.int .i64 x0, .int .i64 x1, .int .i64 x2, .int .i64 t0] 39)).cell? ⟨b4, 3, none⟩ = some (.int .i64 0) := by rw [cell_of_row _ _ _ _ _ _ Q5.out]; rfl
      have Q6 : Hid (((w4.alloc (.cells #[.int .i64 x0, .int .i64 x1, .int .i64 x2, .int .i64 t0] 39)).setRow b4 #[.int .i64 x0, .int .i64 x1, .int .i64 x2, .int .i64 t0]).heap[b4]? = some (.cells #[.int .i64 x0, .int .i64 x1, .int .i64 x2, .int .i64 t0] 39 (0, 0))) := Lib.hid (setRow_heap _ _ _ _ _ _ Q5.out)
      have F6 : Hid (((w4.alloc (.cells #[.int .i64 x0, .int .i64 x1, .int .i64 x2, .int .i64 t0] 39)).setRow b4 #[.int .i64 x0, .int .i64 x1, .int .i64 x2, .int .i64 t0]).heap[b8]? = some (.cells #[.func (.func 134) #[.agg #[.slice A1 ss.length c1, .slice A2 ps.length c2, .int .i64 fz, .bool off, .int .i64 0]] #[], .func (.func 134) #[.agg #[.slice A1 ss.length c1, .slice A2 ps.length c2, .int .i64 fz, .bool off, .int .i64 1]] #[]] 179 (0, 0))) := Lib.hid ((setRow_other _ _ _ _ (by have := L8.out; omega)).trans F5.out)
      have G6 : Hid (Below b4 w2 ((w4.alloc (.cells #[.int .i64 x0, .int .i64 x1, .int .i64 x2, .int .i64 t0] 39)).setRow b4 #[.int .i64 x0, .int .i64 x1, .int .i64 x2, .int .i64 t0])) := Lib.hid (below_setRow G5.out (Nat.le_refl _) _)
      have Z6 : Hid (b8 < ((w4.alloc (.cells #[.int .i64 x0, .int .i64 x1, .int .i64 x2, .int .i64 t0] 39)).setRow b4 #[.int .i64 x0, .int .i64 x1, .int .i64 x2, .int .i64 t0]).heap.size) := Lib.hid (by rw [setRow_size]; exact Z5.out)
      go_wp2_with (refine wpList_store_row rfl 39 (.tmp 4) (.tmp 48) rfl b4 #[.int .i64 x0, .int .i64 x1, .int .i64 x2, .int .i64 t0] rfl rfl 39 _ Q5.out (infoS4 _ _ _ _) rfl oneS4 ?_)
      go_roundw
      case rel => exact ⟨.inr (.inl ⟨rfl, rfl, Q6.out⟩), G6.out, F6.out, Z6.out⟩
      case measure => simp [intOf]
    · have HQ := Lib.hid hq; clear hq
      have f8 : wr.cell? ⟨b8, 1, none⟩ = some (.func (.func 134) #[.agg #[.slice A1 ss.length c1, .slice A2 ps.length c2, .int .i64 fz, .bool off, .int .i64 1]] #[]) := by rw [cell_of_row _ _ _ _ _ _ H8.out]; rfl
      go_wp2_with fail
      clear f8
      refine (C1.out wr HBw.out).mono ?_
      rintro e w4 ⟨rfl, g⟩
      have G5 : Hid (Below b4 w2 (w4.alloc (.cells #[.int .i64 u0, .int .i64 u1, .int .i64 u2, .int .i64 t1] 39))) := Lib.hid ((HB.out.trans (g.mono hzb)).alloc (Nat.le_trans hzb g.size) _)
      have Q5 : Hid ((w4.alloc (.cells #[.int .i64 u0, .int .i64 u1, .int .i64 u2, .int .i64 t1] 39)).heap[b4]? = some (.cells #[.int .i64 x0, .int .i64 x1, .int .i64 x2, .int .i64 t0] 39 (0, 0))) := Lib.hid (by rw [Below.heap_alloc _ _ _ (by have := L8.out; have := g.size; omega)]; exact (g.block _ (by have := L8.out; omega)).trans HQ.out)
      have F5 : Hid ((w4.alloc (.cells #[.int .i64 u0, .int .i64 u1, .int .i64 u2, .int .i64 t1] 39)).heap[b8]? = some (.cells #[.func (.func 134) #[.agg #[.slice A1 ss.length c1, .slice A2 ps.length c2, .int .i64 fz, .bool off, .int .i64 0]] #[], .func (.func 134) #[.agg #[.slice A1 ss.length c1, .slice A2 ps.length c2, .int .i64 fz, .bool off, .int .i64 1]] #[]] 179 (0, 0))) := Lib.hid (by rw [Below.heap_alloc _ _ _ (by have := g.size; omega)]; exact (g.block _ hz).trans H8.out)
      have S5 : Hid ((w4.alloc (.cells #[.int .i64 u0, .int .i64 u1, .int .i64 u2, .int .i64 t1] 39)).heap[w4.heap.size]? = some (.cells #[.int .i64 u0, .int .i64 u1, .int .i64 u2, .int .i64 t1] 39 (0, 0))) := Lib.hid (heap_alloc_new w4 _)
      have Z5 : Hid (b8 < (w4.alloc (.cells #[.int .i64 u0, .int .i64 u1, .int .i64 u2, .int .i64 t1] 39)).heap.size) := Lib.hid (by have := g.size; simp; omega)
      clear g
      have m0 : (w4.alloc (.cells #[.int .i64 u0, .int .i64 u1, .int .i64 u2, .int .i64 t1] 39)).cell? ⟨w4.heap.size, 0, none⟩ = some (.int .i64 u0) := by rw [cell_of_row _ _ _ _ _ _ S5.out]; rfl
      have m1 : (w4.alloc (.cells #[.int .i64 u0, .int .i64 u1, .int .i64 u2, .int .i64 t1] 39)).cell? ⟨w4.heap.size, 1, none⟩ = some (.int .i64 u1) := by rw [cell_of_row _ _ _ _ _ _ S5.out]; rfl
      have m2 : (w4.alloc (.cells #[.int .i64 u0, .int .i64 u1, .int .i64 u2, .int .i64 t1] 39)).cell? ⟨w4.heap.size, 2, none⟩ = some (.int .i64 u2) := by rw [cell_of_row _ _ _ _ _ _ S5.out]; rfl
      have m3 : (w4.alloc (.cells #[.int .i64 u0, .int .i64 u1, .int .i64 u2, .int .i64 t1] 39)).cell? ⟨w4.heap.size, 3, none⟩ = some (.int .i64 t1) := by rw [cell_of_row _ _ _ _ _ _ S5.out]; rfl
      have n3 : (w4.alloc (.cells #[.int .i64 u0, .int .i64 u1, .int .i64 u2, .int .i64 t1] 39)).cell? ⟨b4, 3, none⟩ = some (.int .i64 t0) := by rw [cell_of_row _ _ _ _ _ _ Q5.out]; rfl
      have Q6 : Hid (((w4.alloc (.cells #[.int .i64 u0, .int .i64 u1, .int .i64 u2, .int .i64 t1] 39)).setRow b4 #[.int .i64 u0, .int .i64 u1, .int .i64 u2, .int .i64 t1]).heap[b4]? = some (.cells #[.int .i64 u0, .int .i64 u1, .int .i64 u2, .int .i64 t1] 39 (0, 0))) := Lib.hid (setRow_heap _ _ _ _ _ _ Q5.out)
      have F6 : Hid (((w4.alloc (.cells #[.int .i64 u0, .int .i64 u1, .int .i64 u2, .int .i64 t1] 39)).setRow b4 #[.int .i64 u0, .int .i64 u1, .int .i64 u2, .int .i64 t1]).heap[b8]? = some (.cells #[.func (.func 134) #[.agg #[.slice A1 ss.length c1, .slice A2 ps.length c2, .int .i64 fz, .bool off, .int .i64 0]] #[], .func (.func 134) #[.agg #[.slice A1 ss.length c1, .slice A2 ps.length c2, .int .i64 fz, .bool off, .int .i64 1]] #[]] 179 (0, 0))) := Lib.hid ((setRow_other _ _ _ _ (by have := L8.out; omega)).trans F5.out)
      have G6 : Hid (Below b4 w2 ((w4.alloc (.cells #[.int .i64 u0, .int .i64 u1, .int .i64 u2, .int .i64 t1] 39)).setRow b4 #[.int .i64 u0, .int .i64 u1, .int .i64 u2, .int .i64 t1])) := Lib.hid (below_setRow G5.out (Nat.le_refl _) _)
      have Z6 : Hid (b8 < ((w4.alloc (.cells #[.int .i64 u0, .int .i64 u1, .int .i64 u2, .int .i64 t1] 39)).setRow b4 #[.int .i64 u0, .int .i64 u1, .int .i64 u2, .int .i64 t1]).heap.size) := Lib.hid (by rw [setRow_size]; exact Z5.out)
      go_wp2_with (refine wpList_store_row rfl 39 (.tmp 4) (.tmp 48) rfl b4 #[.int .i64 u0, .int .i64 u1, .int .i64 u2, .int .i64 t1] rfl rfl 39 _ Q5.out (infoS4 _ _ _ _) rfl oneS4 ?_)
      go_roundw
      case rel => exact ⟨.inr (.inr ⟨rfl, rfl, Q6.out⟩), G6.out, F6.out, Z6.out⟩
      case measure => simp [intOf]
    · have HQ := Lib.hid hq; clear hq
      have m0 : wr.cell? ⟨b4, 0, none⟩ = some (.int .i64 u0) := by rw [cell_of_row _ _ _ _ _ _ HQ.out]; rfl
      have m1 : wr.cell? ⟨b4, 1, none⟩ = some (.int .i64 u1) := by rw [cell_of_row _ _ _ _ _ _ HQ.out]; rfl
      have m2 : wr.cell? ⟨b4, 2, none⟩ = some (.int .i64 u2) := by rw [cell_of_row _ _ _ _ _ _ HQ.out]; rfl
      have m3 : wr.cell? ⟨b4, 3, none⟩ = some (.int .i64 t1) := by rw [cell_of_row _ _ _ _ _ _ HQ.out]; rfl
      have RR := Lib.hid ((HB.out.block _ (by have := Lb.out; omega)).trans R2.out)
      go_wp2_with (refine wpList_store_row rfl 39 (.tmp 2) (.tmp 50) rfl (w.heap.size + 1) #[.int .i64 u0, .int .i64 u1, .int .i64 u2, .int .i64 t1] rfl rfl 39 _ RR.out (infoS4 _ _ _ _) rfl oneS4 ?_)
      refine bodyPost_ret (v := .tuple #[.agg #[.int .i64 u0, .int .i64 u1, .int .i64 u2, .int .i64 t1], .int .i64 0]) ?_ rfl ?_
      · exact results_cell_row2 rfl _ _ (w.heap.size + 1) 39 _ (0, 0) _ _ rfl rfl (setRow_heap _ _ _ _ _ _ RR.out) Try.underlying39 rfl (by kernel_rfl)
      · exact ⟨by rw [Hf.out.1, Hf.out.2], below_setRow HBw.out (Nat.le_succ _) _⟩
end Go.Proofs.Ytlickjmdlooapaa
