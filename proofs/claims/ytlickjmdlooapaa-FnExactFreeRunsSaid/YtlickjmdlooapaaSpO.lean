/- The allocation page in memory of the program's own. No statement is proved here. -/
import Derived.Test.YtlickjmdlooapaaGtZ
import Derived.Test.YtlickjmdlooapaaGpI
import Derived.Test.YtlickjmdlooapaaSpI
import Derived.Test.YtlickjmdlooapaaHeld
import Derived.Lib.ConvBytes
import Derived.Lib.SmallJoins
import Derived.Laws.AppendOwn
import Derived.Deep.DeepFit
import Derived.Deep.RegionHeld3
namespace Go.Proofs.Ytlickjmdlooapaa
open Go.RowKit
set_option linter.unusedVariables false
/-- The bytes of a string lie in this block. -/
def ByA (w : World) (g : Nat) (s : ByteArray) : Prop := ∀ j, j < s.size → w.cell? ⟨g, j, none⟩ = some (.int .u8 (s.data.toList.getD j 0).toNat)
theorem ByA.bel {w w' : World} {g : Nat} {s : ByteArray} (h : ByA w g s) (hg : g < w.heap.size) (hb : Below w.heap.size w w') : ByA w' g s := fun j hj => (hb.cell (p := ⟨g, j, none⟩) hg).trans (h j hj)
def SpA (ar : ByteArray) (b l q t : Int) (w : World) (e : Ending) (w' : World) : Prop := ∃ g cap : Nat, e = .returned (.agg #[.int .i64 b, .int .i64 l, .int .i64 q, .int .i64 t, .slice (some ⟨g, 0, none⟩) 64 cap, .slice (some ⟨g, 4, none⟩) 32 32]) ∧ 64 ≤ cap ∧ cap ≤ maxLen ∧ w.heap.size ≤ g ∧ g < w'.heap.size ∧ ByA w' g ar ∧ Below w.heap.size w w'
theorem boxes2Q (w : World) (a b : Array Value) (s t : TypeId) : ((w.alloc (.cells a s)).alloc (.cells b t)).heap[w.heap.size]? = some (.cells a s (0, 0)) ∧ ((w.alloc (.cells a s)).alloc (.cells b t)).heap[w.heap.size + 1]? = some (.cells b t (0, 0)) ∧ ((w.alloc (.cells a s)).alloc (.cells b t)).heap.size = w.heap.size + 2 ∧ Below w.heap.size w ((w.alloc (.cells a s)).alloc (.cells b t)) :=
  ⟨heap_alloc2_old w _ _, heap_alloc2_new w _ _, by simp, ((Below.refl _ w).alloc (Nat.le_refl _) _).alloc (by simp) _⟩
theorem cell_same {w w' : World} {g : Nat} (h : w'.heap[g]? = w.heap[g]?) (j : Nat) : w'.cell? ⟨g, j, none⟩ = w.cell? ⟨g, j, none⟩ := by simp only [World.cell?, h]
theorem bw_below (w : World) (s : ByteArray) : Below w.heap.size w (Lib.bytesWorld w 5 s) := Go.Joins.below_bytesWorld _ w _ s (Nat.le_refl _)
set_option maxHeartbeats 4000000 in
set_option maxRecDepth 100000 in
theorem spaceOf_any {B : Nat} {w : World} {v0 v1 v10 v11 : Value} {ss : List ByteArray} {ps lg dt : List Pt} {fz b l q t sq at_ : Int} {off : Bool} (h0 : RiT B w v0 ss) (h1 : RiU B w v1 ps) (h10 : RiU B w v10 lg) (h11 : RiU B w v11 dt) (hB : B ≤ w.heap.size) (hok : pgrOk ss ps fz off b l q t sq at_ lg dt = true) :
    Calls Try.prog 88 #[.agg #[v0, v1, .int .i64 fz, .bool off, .int .i64 b, .int .i64 l, .int .i64 q, .int .i64 t, .int .i64 sq, .int .i64 at_, v10, v11]] w (SpA (arS ss ps l lg dt) b l q t w) := by
  have H0 := Lib.hid h0; obtain ⟨A0, c0, rfl, l0, m0, -⟩ := h0
  have H1 := Lib.hid h1; obtain ⟨A1, c1, rfl, l1, m1, -⟩ := h1
  have H10 := Lib.hid h10; obtain ⟨A10, c10, rfl, l10, m10, x10⟩ := h10
  have H11 := Lib.hid h11; obtain ⟨A11, c11, rfl, l11, m11, x11⟩ := h11
  unfold maxLen at m0 m1 m10 m11
  clear x10 x11
  have hb := pgrOk_b hok
  have HS := (pgrOk_t hok).1
  have HZ := Lib.hid (arS_64 hok)
  have HB2 := Lib.hid (boxes2Q w #[.slice A0 ss.length c0, .slice A1 ps.length c1, .int .i64 fz, .bool off, .int .i64 b, .int .i64 l, .int .i64 q, .int .i64 t, .int .i64 sq, .int .i64 at_, .slice A10 lg.length c10, .slice A11 dt.length c11] #[.int .i64 0, .int .i64 0, .int .i64 0, .int .i64 0, .slice none 0 0, .slice none 0 0] 42 122)
  have C1 := Lib.hid (fun W => by have := implAreaBlock_any b l q t W (sup_b HS).1 (sup_b HS).2.1; rwa [show arOf b l q t = 2 + l from by simp [arOf, HS]] at this)
  have C2 : Hid (∀ W, Below w.heap.size w W → _) := Lib.hid (fun W hW => current_any (w := W) (k := 2 + l) (fz := fz) (off := off) (b := b) (l := l) (q := q) (t := t) (sq := sq) (at_ := at_) (H0.out.at hB hW) (H1.out.at hB hW) (H10.out.at hB hW) (H11.out.at hB hW) (Nat.le_refl _) (by omega) (by omega) (WalkArith.wf_i64 (by omega)))
  have HA : Hid (arS ss ps l lg dt = gtS ss ps lg dt (2 + l)) := Lib.hid rfl
  rw [← HA.out] at C2
  clear HA
  generalize arS ss ps l lg dt = AR at *
  clear hok HS
  have HBB := Lib.hid hb; clear hb
  have HLP : Hid (∀ W, Below ((w.alloc (.cells #[.slice A0 ss.length c0, .slice A1 ps.length c1, .int .i64 fz, .bool off, .int .i64 b, .int .i64 l, .int .i64 q, .int .i64 t, .int .i64 sq, .int .i64 at_, .slice A10 lg.length c10, .slice A11 dt.length c11] 42)).alloc (.cells #[.int .i64 0, .int .i64 0, .int .i64 0, .int .i64 0, .slice none 0 0, .slice none 0 0] 122)).heap.size ((w.alloc (.cells #[.slice A0 ss.length c0, .slice A1 ps.length c1, .int .i64 fz, .bool off, .int .i64 b, .int .i64 l, .int .i64 q, .int .i64 t, .int .i64 sq, .int .i64 at_, .slice A10 lg.length c10, .slice A11 dt.length c11] 42)).alloc (.cells #[.int .i64 0, .int .i64 0, .int .i64 0, .int .i64 0, .slice none 0 0, .slice none 0 0] 122)) W → W.cell? ⟨w.heap.size, 0, none⟩ = some (.slice A0 ss.length c0) ∧ W.cell? ⟨w.heap.size, 1, none⟩ = some (.slice A1 ps.length c1) ∧ W.cell? ⟨w.heap.size, 2, none⟩ = some (.int .i64 fz) ∧ W.cell? ⟨w.heap.size, 3, none⟩ = some (.bool off) ∧ W.cell? ⟨w.heap.size, 4, none⟩ = some (.int .i64 b) ∧ W.cell? ⟨w.heap.size, 5, none⟩ = some (.int .i64 l) ∧ W.cell? ⟨w.heap.size, 6, none⟩ = some (.int .i64 q) ∧ W.cell? ⟨w.heap.size, 7, none⟩ = some (.int .i64 t) ∧ W.cell? ⟨w.heap.size, 8, none⟩ = some (.int .i64 sq) ∧ W.cell? ⟨w.heap.size, 9, none⟩ = some (.int .i64 at_) ∧ W.cell? ⟨w.heap.size, 10, none⟩ = some (.slice A10 lg.length c10) ∧ W.cell? ⟨w.heap.size, 11, none⟩ = some (.slice A11 dt.length c11)) := Lib.hid (fun W hW => by
    have R : W.heap[w.heap.size]? = some (.cells #[.slice A0 ss.length c0, .slice A1 ps.length c1, .int .i64 fz, .bool off, .int .i64 b, .int .i64 l, .int .i64 q, .int .i64 t, .int .i64 sq, .int .i64 at_, .slice A10 lg.length c10, .slice A11 dt.length c11] 42 (0, 0)) := (hW.block _ (by have := HB2.out.2.2.1; omega)).trans HB2.out.1
    exact ⟨by rw [cell_of_row _ _ _ _ _ _ R]; rfl, by rw [cell_of_row _ _ _ _ _ _ R]; rfl, by rw [cell_of_row _ _ _ _ _ _ R]; rfl, by rw [cell_of_row _ _ _ _ _ _ R]; rfl, by rw [cell_of_row _ _ _ _ _ _ R]; rfl, by rw [cell_of_row _ _ _ _ _ _ R]; rfl, by rw [cell_of_row _ _ _ _ _ _ R]; rfl, by rw [cell_of_row _ _ _ _ _ _ R]; rfl, by rw [cell_of_row _ _ _ _ _ _ R]; rfl, by rw [cell_of_row _ _ _ _ _ _ R]; rfl, by rw [cell_of_row _ _ _ _ _ _ R]; rfl, by rw [cell_of_row _ _ _ _ _ _ R]; rfl⟩)
  have HRS : Hid (∀ W, Below ((w.alloc (.cells #[.slice A0 ss.length c0, .slice A1 ps.length c1, .int .i64 fz, .bool off, .int .i64 b, .int .i64 l, .int .i64 q, .int .i64 t, .int .i64 sq, .int .i64 at_, .slice A10 lg.length c10, .slice A11 dt.length c11] 42)).alloc (.cells #[.int .i64 0, .int .i64 0, .int .i64 0, .int .i64 0, .slice none 0 0, .slice none 0 0] 122)).heap.size ((w.alloc (.cells #[.slice A0 ss.length c0, .slice A1 ps.length c1, .int .i64 fz, .bool off, .int .i64 b, .int .i64 l, .int .i64 q, .int .i64 t, .int .i64 sq, .int .i64 at_, .slice A10 lg.length c10, .slice A11 dt.length c11] 42)).alloc (.cells #[.int .i64 0, .int .i64 0, .int .i64 0, .int .i64 0, .slice none 0 0, .slice none 0 0] 122)) W → W.heap[w.heap.size + 1]? = some (.cells #[.int .i64 0, .int .i64 0, .int .i64 0, .int .i64 0, .slice none 0 0, .slice none 0 0] 122 (0, 0)) ∧ Below w.heap.size w W ∧ w.heap.size + 2 ≤ W.heap.size) := Lib.hid (fun W hW => ⟨(hW.block _ (by have := HB2.out.2.2.1; omega)).trans HB2.out.2.1, HB2.out.2.2.2.trans (hW.mono (by have := HB2.out.2.2.1; omega)), by have := HB2.out.2.2.1; have := hW.size; omega⟩)
  clear HB2
  have hcv := fun W => Lib.run_convert_string_bytes (P := Try.prog) W 9 119 5 AR Try.underlying9 Try.underlying119 Try.underlying5
  rw [HZ.out] at hcv
  go_enter Try.func88, Try.ntmps88
  go_wp2_with fail
  generalize ((w.alloc (.cells #[.slice A0 ss.length c0, .slice A1 ps.length c1, .int .i64 fz, .bool off, .int .i64 b, .int .i64 l, .int .i64 q, .int .i64 t, .int .i64 sq, .int .i64 at_, .slice A10 lg.length c10, .slice A11 dt.length c11] 42)).alloc (.cells #[.int .i64 0, .int .i64 0, .int .i64 0, .int .i64 0, .slice none 0 0, .slice none 0 0] 122)) = w0 at *
  have HD : Hid (Below w0.heap.size w0 w0.drew) := Lib.hid (Below.refl _ _).drew
  refine wp_region_held_drew (S := (fun W => W.cell? ⟨w.heap.size, 0, none⟩ = some (.slice A0 ss.length c0) ∧ W.cell? ⟨w.heap.size, 1, none⟩ = some (.slice A1 ps.length c1) ∧ W.cell? ⟨w.heap.size, 2, none⟩ = some (.int .i64 fz) ∧ W.cell? ⟨w.heap.size, 3, none⟩ = some (.bool off) ∧ W.cell? ⟨w.heap.size, 4, none⟩ = some (.int .i64 b) ∧ W.cell? ⟨w.heap.size, 5, none⟩ = some (.int .i64 l) ∧ W.cell? ⟨w.heap.size, 6, none⟩ = some (.int .i64 q) ∧ W.cell? ⟨w.heap.size, 7, none⟩ = some (.int .i64 t) ∧ W.cell? ⟨w.heap.size, 8, none⟩ = some (.int .i64 sq) ∧ W.cell? ⟨w.heap.size, 9, none⟩ = some (.int .i64 at_) ∧ W.cell? ⟨w.heap.size, 10, none⟩ = some (.slice A10 lg.length c10) ∧ W.cell? ⟨w.heap.size, 11, none⟩ = some (.slice A11 dt.length c11))) (by kernel_rfl) (HLP.out _ HD.out) (fun hHeld => ?_)
  refine held_yes 0 (some 4) rfl rfl (by kernel_rfl) (by kernel_rfl) (by kernel_rfl) (fun _ _ _ h => h) (by kernel_rfl) hHeld (v := ?_) (fun wz hSw => ?_) ?_
  rotate_left 1
  · (try dsimp only at hSw); go_simp; (try with_reducible rfl)
  try simp only [Act.put, List.setIfInBounds_toArray, List.set_cons_zero, List.set_cons_succ]
  refine held_yes 1 (some 5) rfl rfl (by kernel_rfl) (by kernel_rfl) (by kernel_rfl) (fun _ _ _ h => h) (by kernel_rfl) hHeld (v := ?_) (fun wz hSw => ?_) ?_
  rotate_left 1
  · (try dsimp only at hSw); go_simp; (try with_reducible rfl)
  try simp only [Act.put, List.setIfInBounds_toArray, List.set_cons_zero, List.set_cons_succ]
  refine held_yes 2 (some 6) rfl rfl (by kernel_rfl) (by kernel_rfl) (by kernel_rfl) (fun _ _ _ h => h) (by kernel_rfl) hHeld (v := ?_) (fun wz hSw => ?_) ?_
  rotate_left 1
  · (try dsimp only at hSw); go_simp; (try with_reducible rfl)
  try simp only [Act.put, List.setIfInBounds_toArray, List.set_cons_zero, List.set_cons_succ]
  refine wpAnyH_ready (rs := [3]) (by kernel_rfl) (by simp) ?_
  refine AllReadyH.cons rfl (fun K hK => ?_) AllReadyH.nil
  go_simp
  (go_at_call 166; go_fit (C1.out _); rintro e u1 ⟨rfl, g1⟩; have kb1 : Below w0.heap.size w0 u1 := HD.out.trans (g1.mono HD.out.size))
  refine hK.out _ _ (HLP.out _ kb1) (fun hHeld => ?_)
  clear hK K
  try simp only [Act.put, List.setIfInBounds_toArray, List.set_cons_zero, List.set_cons_succ]
  refine wpAnyH_ready (rs := [4]) (by kernel_rfl) (by simp) ?_
  refine AllReadyH.cons rfl (fun K hK => ?_) AllReadyH.nil
  go_simp
  (go_at_call 104; go_fit (C2.out _ (HRS.out _ kb1).2.1); rintro e u2 ⟨rfl, g2⟩; have kb2 : Below w0.heap.size w0 u2 := kb1.trans (g2.mono kb1.size))
  refine hK.out _ _ (HLP.out _ kb2) (fun hHeld => ?_)
  clear hK K
  try simp only [Act.put, List.setIfInBounds_toArray, List.set_cons_zero, List.set_cons_succ]
  refine wpAnyH_ready (rs := [5]) (by kernel_rfl) (by simp) ?_
  refine AllReadyH.cons rfl (fun K hK => ?_) AllReadyH.nil
  go_simp
  skip
  refine hK.out _ _ (HLP.out _ (kb2.trans ((bw_below u2 AR).mono kb2.size))) (fun hHeld => ?_)
  clear hK K
  try simp only [Act.put, List.setIfInBounds_toArray, List.set_cons_zero, List.set_cons_succ]
  refine held_yes 6 (some 3) rfl rfl (by kernel_rfl) (by kernel_rfl) (by kernel_rfl) (fun _ _ _ h => h) (by kernel_rfl) hHeld (v := ?_) (fun wz hSw => ?_) ?_
  rotate_left 1
  · (try dsimp only at hSw); go_simp; (try with_reducible rfl)
  try simp only [Act.put, List.setIfInBounds_toArray, List.set_cons_zero, List.set_cons_succ]
  refine wpAnyH_done (by kernel_rfl) ?_ _
  try simp only [Exit.then]
  have hc1 := grownCap_ge u2 64 0 5
  have hc2 := grownCap_le_maxLen u2 64 0 5 (by unfold maxLen; omega)
  have HBy : Hid (ByA (Lib.bytesWorld u2 5 AR) u2.heap.size AR) := Lib.hid (fun j hj => Lib.bytesWorld_cell u2 5 AR j hj)
  have Hk3 : Hid (Below w0.heap.size w0 (Lib.bytesWorld u2 5 AR)) := Lib.hid (kb2.trans ((bw_below u2 AR).mono kb2.size))
  have Hz3 : Hid ((Lib.bytesWorld u2 5 AR).heap.size = u2.heap.size + 1 ∧ w.heap.size + 2 ≤ u2.heap.size) := Lib.hid ⟨Lib.bytesWorld_size _ _ _, (HRS.out _ kb2).2.2⟩
  clear kb1 kb2 g1 g2 hcv
  generalize grownCap u2 64 0 5 = cap at *
  generalize Lib.bytesWorld u2 5 AR = w3 at *
  generalize u2.heap.size = g at *
  unfold maxLen at hc2
  have Hc2 := Lib.hid hc2; clear hc2
  have G1 := Lib.hid (run_load_cells (P := Try.prog) w3.drew w.heap.size 4 39 _ [.int .i64 b, .int .i64 l, .int .i64 q, .int .i64 t] (fun j u hj => by
    have h := HLP.out w3.drew (Hk3.out.drew)
    rcases j with _ | _ | _ | _ | j
    · obtain rfl := Option.some.inj hj; exact h.2.2.2.2.1
    · obtain rfl := Option.some.inj hj; exact h.2.2.2.2.2.1
    · obtain rfl := Option.some.inj hj; exact h.2.2.2.2.2.2.1
    · obtain rfl := Option.some.inj hj; exact h.2.2.2.2.2.2.2.1
    · simp at hj) Try.underlying39 rfl)
  have hc3 : (36 : Int) ≤ (cap : Int) := by omega
  go_wp2_with fail
  refine wp_region_still_tail 6 (by kernel_rfl) (by kernel_rfl) ?_
  simp only [List.take_succ_cons, List.take_zero, List.drop_succ_cons, List.drop_zero]
  still_step
  refine wpStill_load rfl 39 (.tmp 10) rfl _ rfl _ G1.out ?_
  still_step
  still_step
  still_step
  still_step
  refine wpStill_nil ?_
  have RS := Lib.hid (HRS.out w3.drew Hk3.out.drew)
  have HBy2 : Hid (ByA w3.drew g AR) := Lib.hid (fun j hj => HBy.out j hj)
  have Hz4 : Hid (w3.drew.heap.size = g + 1) := Lib.hid Hz3.out.1
  change wpList _ _ _ _ _ w3.drew
  clear G1
  generalize w3.drew = wd at *
  have Hi9 : Hid ((Try.prog.info? 122).map (·.size) = some (#[.int .i64 b, .int .i64 l, .int .i64 q, .int .i64 t, .slice (some ⟨g, 0, none⟩) 64 cap, .slice (some ⟨g, 4, none⟩) 32 32] : Array Value).size) := Lib.hid (by kernel_rfl)
  have H19 : Hid ((#[.int .i64 b, .int .i64 l, .int .i64 q, .int .i64 t, .slice (some ⟨g, 0, none⟩) 64 cap, .slice (some ⟨g, 4, none⟩) 32 32] : Array Value).all (·.oneCell') = true) := Lib.hid (by simp [Value.oneCell'])
  go_wp2_with (refine wpList_store_row rfl 122 (.tmp 2) (.tmp 15) rfl (w.heap.size + 1) #[.int .i64 b, .int .i64 l, .int .i64 q, .int .i64 t, .slice (some ⟨g, 0, none⟩) 64 cap, .slice (some ⟨g, 4, none⟩) 32 32] rfl rfl 122 _ RS.out.1 Hi9.out rfl H19.out ?_)
  refine bodyPost_ret (v := .agg #[.int .i64 b, .int .i64 l, .int .i64 q, .int .i64 t, .slice (some ⟨g, 0, none⟩) 64 cap, .slice (some ⟨g, 4, none⟩) 32 32]) ?_ rfl ?_
  · exact results_cell_row rfl _ _ (w.heap.size + 1) 122 _ (0, 0) _ rfl (setRow_heap _ _ _ _ _ _ RS.out.1) Try.underlying122 rfl (by kernel_rfl)
  · have hz := Hz3.out.2
    have hne : g ≠ w.heap.size + 1 := by omega
    refine ⟨g, cap, rfl, by omega, by unfold maxLen; have := Hc2.out; omega, by omega, ?_, ?_, below_setRow RS.out.2.1 (by omega) _⟩
    · have := Hz4.out; rw [setRow_size]; omega
    · intro j hj
      rw [← HBy2.out j hj]
      exact cell_same (setRow_other _ _ _ _ hne) j
end Go.Proofs.Ytlickjmdlooapaa
