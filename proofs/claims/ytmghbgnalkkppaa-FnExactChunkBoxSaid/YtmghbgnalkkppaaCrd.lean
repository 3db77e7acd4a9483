/- The coordinates of an element: the numbers, and the contract of the model's loop. No statement is proved here. -/
import Derived.Test.YtmghbgnalkkppaaMrS
import Derived.Test.YtmghbgnalkkppaaDimC
namespace Go.Proofs.Ytmghbgnalkkppaa
open Go.RowKit
set_option linter.unusedVariables false
/-- What is left of the index when j dimensions remain. -/
def qR (ds : List Int) (i : Int) (j : Nat) : Int := (ds.drop j).foldr (fun d q => q.tdiv d) i
def crd (ds : List Int) (i : Int) (j : Nat) : Int := (qR ds i (j + 1)).tmod (ds.getD j 0)
def crds (ds : List Int) (i : Int) : List Int := (List.range ds.length).map (crd ds i)
theorem crds_length (ds : List Int) (i : Int) : (crds ds i).length = ds.length := by simp [crds]
theorem crds_at (ds : List Int) (i : Int) (j : Nat) (h : j < (crds ds i).length) : (crds ds i)[j] = crd ds i j := by simp [crds]
theorem qR_end (ds : List Int) (i : Int) : qR ds i ds.length = i := by simp [qR]
theorem qR_step (ds : List Int) (i : Int) (j : Nat) (h : j < ds.length) : qR ds i j = (qR ds i (j + 1)).tdiv ds[j] := by
  unfold qR; rw [List.drop_eq_getElem_cons h, List.foldr_cons]
theorem fold_bd (l : List Int) (i : Int) (h0 : 0 ≤ i) (hp : ∀ d ∈ l, 0 < d) : 0 ≤ l.foldr (fun d q => q.tdiv d) i ∧ l.foldr (fun d q => q.tdiv d) i ≤ i := by
  induction l with
  | nil => simp [h0]
  | cons d l ih =>
    have := ih (fun x hx => hp x (by simp [hx]))
    have hd := hp d (by simp)
    rw [List.foldr_cons]
    exact ⟨Int.tdiv_nonneg this.1 (by omega), Int.le_trans (Int.tdiv_le_self _ this.1) this.2⟩
theorem qR_bd (ds : List Int) (i : Int) (h0 : 0 ≤ i) (hp : ∀ d ∈ ds, 0 < d) (j : Nat) : 0 ≤ qR ds i j ∧ qR ds i j ≤ i :=
  fold_bd _ i h0 fun d hd => hp d (List.mem_of_mem_drop hd)
theorem crd_at (ds : List Int) (i : Int) (j : Nat) (h : j < ds.length) : crd ds i j = (qR ds i (j + 1)).tmod ds[j] := by
  unfold crd; rw [List.getD_eq_getElem?_getD, List.getElem?_eq_getElem h]; rfl
theorem crd_bd (ds : List Int) (i : Int) (h0 : 0 ≤ i) (hp : ∀ d ∈ ds, 0 < d) (j : Nat) (h : j < ds.length) : 0 ≤ crd ds i j ∧ crd ds i j < ds[j] := by
  rw [crd_at ds i j h]
  have hd := hp ds[j] (List.getElem_mem h)
  exact ⟨Int.tmod_nonneg _ (qR_bd ds i h0 hp _).1, Int.tmod_lt_of_pos _ hd⟩
/-- A row of n cells, those from j on the coordinates. -/
def CrdRow (w : World) (b : Nat) (ds : List Int) (i : Int) (j : Nat) (C : Array Value) : Prop :=
  w.heap[b]? = some (.cells C 2 (0, 0)) ∧ C.size = ds.length ∧ ∀ k, k < ds.length → j ≤ k → C[k]? = some (.int .i64 (crd ds i k))
theorem CrdRow.set {w : World} {b : Nat} {ds : List Int} {i : Int} {j : Nat} {C : Array Value} (h : CrdRow w b ds i (j + 1) C) (hj : j < ds.length) :
    CrdRow (w.setCell ⟨b, j, none⟩ (.int .i64 (crd ds i j))) b ds i j (C.setIfInBounds j (.int .i64 (crd ds i j))) := by
  refine ⟨heap_setCell_same _ _ _ _ _ _ h.1, by simp [h.2.1], fun k hk hjk => ?_⟩
  rw [Array.getElem?_setIfInBounds]
  by_cases e : j = k
  · subst e; simp [h.2.1, hj]
  · rw [if_neg e]; exact h.2.2 k hk (by omega)
theorem CrdRow.row {w : World} {b : Nat} {ds : List Int} {i : Int} {C : Array Value} (h : CrdRow w b ds i 0 C) : Row w b (crds ds i) := by
  unfold Row
  rw [h.1]
  congr 2
  apply Array.ext (by rw [cellsI_size, crds_length, h.2.1])
  intro k h1 h2
  rw [cellsI_size] at h2
  have e1 := h.2.2 k (by rw [crds_length] at h2; exact h2) (Nat.zero_le _)
  have e2 := cellsI_at (crds ds i) k h2
  rw [crds_at] at e2
  rw [Array.getElem?_eq_getElem h1] at e1
  rw [Array.getElem?_eq_getElem (by rw [cellsI_size]; exact h2)] at e2
  rw [← Option.some.inj e1] at e2
  exact (Option.some.inj e2).symm
set_option maxHeartbeats 1000000 in
theorem l05Coords_any {B : Nat} {w : World} {v : Value} {ds : List Int} {i : Int} (h : Ri B w v ds) (hB : B ≤ w.heap.size) (hs : ds.length ≤ 3) (h0 : 0 ≤ i) (hi : i ≤ 1000) (hp : ∀ d ∈ ds, 0 < d ∧ d ≤ 40) :
    Calls Try.prog 54 #[v, .int .i64 i] w fun e w' => e = .returned (.slice (some ⟨w.heap.size, 0, none⟩) ds.length ds.length) ∧ OI w' w.heap.size (.slice (some ⟨w.heap.size, 0, none⟩) ds.length ds.length) (crds ds i) ∧ Below w.heap.size w w' := by
  obtain ⟨A, cap, rfl, hl, hc, hx⟩ := h
  obtain ⟨C, hC, hmk⟩ := make_all (P := Try.prog) 22 2 ds.length 1 8 Try.underlying22 Try.infoI (by omega) (by omega)
  have Hx := Lib.hid hx; have HC := Lib.hid hC
  clear hx hC
  have HB0 : Hid (Below w.heap.size w (w.alloc (.cells C 2))) := Lib.hid ((Below.refl _ w).alloc (Nat.le_refl _) _)
  have HR0 : Hid (CrdRow (w.alloc (.cells C 2)) w.heap.size ds i ds.length C) := Lib.hid ⟨heap_alloc_new w _, by rw [HC.out, Nat.mul_one], fun k hk h => absurd hk (by omega)⟩
  have Hp := Lib.hid hp; clear hp
  have Hpos : Hid (∀ d ∈ ds, 0 < d) := Lib.hid (fun d hd => (Hp.out d hd).1)
  go_enter Try.func54, Try.ntmps54
  go_wp2
  go_loopw [1, 6] (fun q x wr => ∃ j : Nat, ∃ C' : Array Value, j ≤ ds.length ∧ x = .int .i64 ((j : Int) - 1) ∧ q = .int .i64 (qR ds i j) ∧ CrdRow wr w.heap.size ds i j C' ∧ Below w.heap.size w wr) (fun _ x _ => (intOf x + 1).toNat)
  case atStart => exact ⟨ds.length, C, Nat.le_refl _, rfl, by rw [qR_end], HR0.out, HB0.out⟩
  case round =>
    obtain ⟨j, C', hj, rfl, rfl, hrow, hbel⟩ := hrel
    have Hrow := Lib.hid hrow; have Hbel := Lib.hid hbel; clear hrow hbel
    cases j with
    | zero =>
      have Hr := Lib.hid Hrow.out.row
      go_wp2
      go_ret
      exact ⟨rfl, by simpa [crds_length] using OI.of_row Hr.out (Nat.le_refl _) (by rw [crds_length]; unfold maxLen; omega), Hbel.out⟩
    | succ j =>
      rw [show ((j + 1 : Nat) : Int) - 1 = (j : Int) by omega]
      have hlt : j < ds.length := by omega
      obtain ⟨b, o, rfl, hb, hcell, hI⟩ := Hx.out j hlt
      have hcell2 : wr.cell? ⟨b, o + j, none⟩ = some (.int .i64 ds[j]) := by rw [Hbel.out.cell (p := ⟨b, o + j, none⟩) (show b < _ from by omega)]; exact hcell
      obtain ⟨u, hu0⟩ : ∃ u, C'[j]? = some u := ⟨_, Array.getElem?_eq_getElem (by rw [Hrow.out.2.1]; exact hlt)⟩
      have hu : wr.cell? ⟨w.heap.size, j, none⟩ = some u := by rw [cell_of_row _ _ _ _ _ _ Hrow.out.1]; exact hu0
      have hfz : wr.frozen? ⟨w.heap.size, j, none⟩ = false := frozen_of_row _ _ _ _ _ Hrow.out.1
      have Hnew := Lib.hid (Hrow.out.set hlt)
      have Hb2 : Hid (Below w.heap.size w (wr.setCell ⟨w.heap.size, j, none⟩ (.int .i64 (crd ds i j)))) := Lib.hid (Hbel.out.setCell (p := ⟨w.heap.size, j, none⟩) (Nat.le_refl _) _)
      have hd := Hp.out ds[j] (List.getElem_mem hlt)
      have hqb := qR_bd ds i h0 Hpos.out (j + 1)
      have hqb2 := qR_bd ds i h0 Hpos.out j
      have hcb := crd_bd ds i h0 Hpos.out j hlt
      have hm : (qR ds i (j + 1)).tmod ds[j] = crd ds i j := (crd_at ds i j hlt).symm
      have hq : (qR ds i (j + 1)).tdiv ds[j] = qR ds i j := (qR_step ds i j hlt).symm
      generalize ds[j] = d at *
      generalize qR ds i (j + 1) = q1 at *
      obtain ⟨q0, hq0e⟩ : ∃ q0, qR ds i j = q0 := ⟨_, rfl⟩
      rw [hq0e] at hq hqb2
      have Hq0 := Lib.hid hq0e; clear hq0e
      generalize crd ds i j = c at *
      have hw1 : IntKind.i64.wrap c = c := IntWalk.i64_in _ (by omega)
      have hw2 : IntKind.i64.wrap q0 = q0 := IntWalk.i64_in _ (by omega)
      have hne : ¬ (d = 0) := by omega
      clear hcell hu0
      go_wp2
      exact ⟨⟨j, _, by omega, rfl, by rw [Hq0.out], Hnew.out, Hb2.out⟩, by simp [intOf]⟩
end Go.Proofs.Ytmghbgnalkkppaa
