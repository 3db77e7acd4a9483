/- Grids of chunks: the model's ChunkBox. No statement is proved here. -/
import Derived.Test.YtmghbgnalkkppaaGrX
namespace Go.Proofs.Ytmghbgnalkkppaa
open Go.RowKit
set_option linter.unusedVariables false
theorem kys_bd {ds cs : List Int} (h : ckOk ds cs = true) : ∀ x ∈ kys (grds ds cs), 0 ≤ x ∧ x ≤ 1000000 := by
  obtain ⟨h1, h2, h3, h4⟩ := grd_facts h
  intro x hx
  obtain ⟨j, hj, rfl⟩ := List.mem_map.1 hx
  have hj := List.mem_range.1 hj
  have hp := pos_of_count h2 (by omega)
  have := pkK_small _ (by rw [crds_length]; exact h1) (crds_inD hp (j : Int) (by omega)) _ (Nat.le_refl _)
  unfold kyF pkL
  omega
theorem hasE_iff {ds cs : List Int} {k : Int} (h : hasE ds cs k = true) : ckOk ds cs = true ∧ 0 ≤ k ∧ k ≤ 1000000 := by
  rw [hasE, Bool.and_eq_true, decide_eq_true_eq] at h
  exact ⟨h.1, kys_bd h.1 k h.2⟩
theorem l20Has_b {B : Nat} {w : World} {v u : Value} {ds cs : List Int} (b : Bool) (k : Int) (h : Ri B w v ds) (h2 : Ri B w u cs) (hB : B ≤ w.heap.size) (hk : hasE ds cs k = b) :
    Calls Try.prog 47 #[v, u, .int .i64 k] w (GivesB (.bool b) w) := hk ▸ l20Has_any k h h2 hB
def cbL (ds cs : List Int) (k : Int) : List Int := if hasE ds cs k = true then bxL ds cs k else []
def cbH (ds cs : List Int) (k : Int) : List Int := if hasE ds cs k = true then bxH ds cs k else []
theorem OI.row {w : World} {lo r : Nat} {v : Value} {xs : List Int} (h : OI w lo v xs) (hr : r < lo) (cs : Array Value) : OI (w.setRow r cs) lo v xs :=
  h.same fun g hg => setRow_other w r g cs (fun e => by have := h.wi g hg; omega)
set_option maxHeartbeats 2000000 in
set_option maxRecDepth 100000 in
theorem specChunkBox_any {B : Nat} {w : World} {v u : Value} {ds cs : List Int} (k : Int) (h : Ri B w v ds) (h2 : Ri B w u cs) (hB : B ≤ w.heap.size) :
    Calls Try.prog 25 #[v, u, .int .i64 k] w (AnsAt (cbL ds cs k) (cbH ds cs k) (.bool (hasE ds cs k)) w) := by
  have H := Lib.hid h; have H2 := Lib.hid h2
  obtain ⟨A1, c1, rfl, -⟩ := h
  obtain ⟨A2, c2, rfl, -⟩ := h2
  have HB0 : Hid (Below w.heap.size w (w.alloc (.cells #[.slice none 0 0, .slice none 0 0] 32))) := Lib.hid ((Below.refl _ w).alloc (Nat.le_refl _) _)
  have Hr0 : Hid ((w.alloc (.cells #[.slice none 0 0, .slice none 0 0] 32)).heap[w.heap.size]? = some (.cells #[.slice none 0 0, .slice none 0 0] 32 (0, 0))) := Lib.hid (heap_alloc_new w _)
  have Hs0 : Hid ((w.alloc (.cells #[.slice none 0 0, .slice none 0 0] 32)).heap.size = w.heap.size + 1) := Lib.hid (by simp)
  have Hi9 : Hid ((Try.prog.info? 32).map (·.size) = some (#[.slice none 0 0, .slice none 0 0] : Array Value).size) := Lib.hid (by kernel_rfl)
  have H19 : Hid ((#[.slice none 0 0, .slice none 0 0] : Array Value).all (·.oneCell') = true) := Lib.hid (by simp [Value.oneCell'])
  obtain ⟨r, hr⟩ : ∃ r, hasE ds cs k = r := ⟨_, rfl⟩
  have HE1 : Hid (cbL ds cs k = if r = true then bxL ds cs k else []) := Lib.hid (by rw [cbL, hr])
  have HE2 : Hid (cbH ds cs k = if r = true then bxH ds cs k else []) := Lib.hid (by rw [cbH, hr])
  have Hr := Lib.hid hr
  rw [hr]
  clear hr
  cases r with
  | true =>
    have HI := Lib.hid (hasE_iff Hr.out)
    go_enter Try.func25, Try.ntmps25
    go_wp2_with fail
    generalize (w.alloc (.cells #[.slice none 0 0, .slice none 0 0] 32)) = W0 at *
    refine (l20Has_b true k (H.out.up (Nat.le_refl _) (HB0.out.mono hB)) (H2.out.up (Nat.le_refl _) (HB0.out.mono hB)) (Nat.le_trans hB HB0.out.size) Hr.out).mono ?_
    rintro e W1 ⟨rfl, hb⟩
    have HB1 := Lib.hid (HB0.out.trans (hb.mono HB0.out.size))
    have Hr1 : Hid (W1.heap[w.heap.size]? = some (.cells #[.slice none 0 0, .slice none 0 0] 32 (0, 0))) := Lib.hid ((hb.block _ (by rw [Hs0.out]; omega)).trans Hr0.out)
    have Hs1 : Hid (w.heap.size < W1.heap.size) := Lib.hid (by have := hb.size; have := Hs0.out; omega)
    clear hb
    go_wp2_with fail
    refine (l20Box_any k (H.out.up (Nat.le_refl _) (HB1.out.mono hB)) (H2.out.up (Nat.le_refl _) (HB1.out.mono hB)) (Nat.le_trans hB HB1.out.size) HI.out.1 HI.out.2.1 HI.out.2.2).mono ?_
    rintro e W2 ⟨E1, E2, d1, d2, rfl, ho1, ho2, hap, hb⟩
    have HB2 := Lib.hid (HB1.out.trans (hb.mono HB1.out.size))
    have Hr2 : Hid (W2.heap[w.heap.size]? = some (.cells #[.slice none 0 0, .slice none 0 0] 32 (0, 0))) := Lib.hid ((hb.block _ Hs1.out).trans Hr1.out)
    have HO1 := Lib.hid ho1; have HO2 := Lib.hid ho2; have HAp := Lib.hid hap
    clear hb ho1 ho2 hap
    obtain ⟨L1, hL1⟩ : ∃ L, bxL ds cs k = L := ⟨_, rfl⟩
    obtain ⟨L2, hL2⟩ : ∃ L, bxH ds cs k = L := ⟨_, rfl⟩
    rw [hL1] at HE1 HO1 HAp ⊢
    rw [hL2] at HE2 HO2 HAp ⊢
    clear hL1 hL2
    have H29 : Hid ((#[.slice E1 L1.length d1, .slice E2 L2.length d2] : Array Value).all (·.oneCell') = true) := Lib.hid (by simp [Value.oneCell'])
    go_wp2_with (refine wpList_store_row rfl 32 (.tmp 6) (.tmp 17) rfl w.heap.size #[.slice E1 L1.length d1, .slice E2 L2.length d2] rfl rfl 32 _ Hr2.out (by kernel_rfl) rfl H29.out ?_)
    refine bodyPost_ret (v := .tuple #[.agg #[.slice E1 L1.length d1, .slice E2 L2.length d2], .bool true]) ?_ ?_ ?_
    · exact results_cell_row2 rfl _ _ w.heap.size 32 _ (0, 0) _ _ rfl rfl (setRow_heap _ _ _ _ _ _ Hr2.out) Try.underlying32 rfl (by kernel_rfl)
    · rfl
    · rw [HE1.out, HE2.out]
      exact ⟨E1, E2, d1, d2, rfl, (HO1.out.row Hs1.out _).lo (Nat.le_of_lt Hs1.out), (HO2.out.row Hs1.out _).lo (Nat.le_of_lt Hs1.out), HAp.out, below_setRow HB2.out (Nat.le_refl _) _⟩
  | false =>
    go_enter Try.func25, Try.ntmps25
    go_wp2_with fail
    generalize (w.alloc (.cells #[.slice none 0 0, .slice none 0 0] 32)) = W0 at *
    refine (l20Has_b false k (H.out.up (Nat.le_refl _) (HB0.out.mono hB)) (H2.out.up (Nat.le_refl _) (HB0.out.mono hB)) (Nat.le_trans hB HB0.out.size) Hr.out).mono ?_
    rintro e W1 ⟨rfl, hb⟩
    have HB1 := Lib.hid (HB0.out.trans (hb.mono HB0.out.size))
    have Hr1 : Hid (W1.heap[w.heap.size]? = some (.cells #[.slice none 0 0, .slice none 0 0] 32 (0, 0))) := Lib.hid ((hb.block _ (by rw [Hs0.out]; omega)).trans Hr0.out)
    clear hb
    go_wp2_with (refine wpList_store_row rfl 32 (.tmp 6) (.tmp 13) rfl w.heap.size #[.slice none 0 0, .slice none 0 0] rfl rfl 32 _ Hr1.out Hi9.out rfl H19.out ?_)
    refine bodyPost_ret (v := .tuple #[.agg #[.slice none 0 0, .slice none 0 0], .bool false]) ?_ ?_ ?_
    · exact results_cell_row2 rfl _ _ w.heap.size 32 _ (0, 0) _ _ rfl rfl (setRow_heap _ _ _ _ _ _ Hr1.out) Try.underlying32 rfl (by kernel_rfl)
    · rfl
    · rw [HE1.out, HE2.out]
      exact ans_nil _ (below_setRow HB1.out (Nat.le_refl _) _)
end Go.Proofs.Ytmghbgnalkkppaa
