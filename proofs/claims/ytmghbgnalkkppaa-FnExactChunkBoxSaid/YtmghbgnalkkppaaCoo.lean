/- The contract of the program's coordsOf. No statement is proved here. -/
import Derived.RangeFuncNested
import Derived.RangeFuncBound
import Derived.RangeFuncCalls
import Derived.RangeFuncLeaves
import Derived.Shelf.Abstract
import Derived.Shelf.RegionOpen
import Derived.WalkKit
import Derived.OwnWalkIn
import Derived.TacticsInMore
import Derived.LoopNIn
import Derived.LoopIn
import Derived.Test.YtmghbgnalkkppaaBwd
namespace Go.Proofs.Ytmghbgnalkkppaa
open Go.RowKit Go.Shelf
attribute [local go_sem] Oper.semAt_some
set_option linter.unusedVariables false
theorem alloc4 (w : World) (o0 o1 o2 o3 : Obj) : ((((w.alloc o0).alloc o1).alloc o2).alloc o3).heap[w.heap.size]? = some o0 ∧ ((((w.alloc o0).alloc o1).alloc o2).alloc o3).heap[w.heap.size + 1]? = some o1 ∧ ((((w.alloc o0).alloc o1).alloc o2).alloc o3).heap[w.heap.size + 2]? = some o2 ∧
    ((((w.alloc o0).alloc o1).alloc o2).alloc o3).heap[w.heap.size + 3]? = some o3 ∧ ((((w.alloc o0).alloc o1).alloc o2).alloc o3).heap.size = w.heap.size + 4 ∧ Below w.heap.size w ((((w.alloc o0).alloc o1).alloc o2).alloc o3) := by
  have z1 : (w.alloc o0).heap.size = w.heap.size + 1 := by simp
  have z2 : ((w.alloc o0).alloc o1).heap.size = w.heap.size + 2 := by simp
  have z3 : (((w.alloc o0).alloc o1).alloc o2).heap.size = w.heap.size + 3 := by simp
  have z4 : ((((w.alloc o0).alloc o1).alloc o2).alloc o3).heap.size = w.heap.size + 4 := by simp
  refine ⟨?_, ?_, ?_, ?_, z4, ((((Below.refl _ w).alloc (Nat.le_refl _) _).alloc (by omega) _).alloc (by omega) _).alloc (by omega) _⟩
  · rw [heap_alloc_old _ _ _ (by omega), heap_alloc_old _ _ _ (by omega), heap_alloc_old _ _ _ (by omega)]; exact heap_alloc_new _ _
  · rw [heap_alloc_old _ _ _ (by omega), heap_alloc_old _ _ _ (by omega), ← z1]; exact heap_alloc_new _ _
  · rw [heap_alloc_old _ _ _ (by omega), ← z2]; exact heap_alloc_new _ _
  · rw [← z3]; exact heap_alloc_new _ _
/-- Index, row and list between two rounds. -/
def CrdI (w : World) (ds : List Int) (i : Int) (C : Array Value) (pre : List (Dx ds)) (W : World) : Prop :=
  W.heap[w.heap.size]? = some (.cells #[.int .i64 (stq i C (pre.map (·.1))).1] 2 (0, 0)) ∧ W.heap[w.heap.size + 1]? = some (.cells (stq i C (pre.map (·.1))).2 2 (0, 0)) ∧
  W.heap[w.heap.size + 2]? = some (.cells #[.slice (some ⟨w.heap.size + 1, 0, none⟩) ds.length ds.length] 22 (0, 0)) ∧ Below w.heap.size w W
theorem crdI_own (w : World) (ds : List Int) (i : Int) (C : Array Value) (K : Nat) (hK : w.heap.size + 4 ≤ K) : OwnFrom K (CrdI w ds i C) := fun pre W W' row hs hg hr => by
  have key : ∀ k o, k < w.heap.size + 3 → W.heap[k]? = some o → W'.heap[k]? = some o := fun k o hk ho =>
    (hg.block k (Array.getElem?_eq_some_iff.1 ho).1 (fun e => by have := (hr k e.symm).1; omega)).trans ho
  refine ⟨key _ _ (by omega) hs.1, key _ _ (by omega) hs.2.1, key _ _ (by omega) hs.2.2.1, ?_⟩
  exact hs.2.2.2.grown hg hs.2.2.2.size (fun r e => by have := (hr r e).1; omega)
set_option maxRecDepth 100000 in
set_option maxHeartbeats 2000000 in
theorem coordsOf_in (F : Fence) (n : Nat) (h49 : F.fn 74) (h62 : F.fn 76) (h67 : F.fn 77) (hro : F.round = none) (hn : 3 ≤ n) {B : Nat} {w : World} {v : Value} {ds : List Int} {i : Int} (h : Ri B w v ds) (hB : B ≤ w.heap.size) (hs : ds.length ≤ 3) (h0 : 0 ≤ i) (hi : i ≤ 1000) (hp : ∀ d ∈ ds, 0 < d ∧ d ≤ 40) :
    CallsIn F n Try.prog 74 #[v, .int .i64 i] w fun e w' => ∃ A1 : Option Addr, e = .returned (.slice A1 ds.length ds.length) ∧ OI w' w.heap.size (.slice A1 ds.length ds.length) (crds ds i) ∧ Below w.heap.size w w' := by
  have h1 : 1 ≤ n := by omega
  obtain ⟨A, cap, rfl, hl, hc, hx⟩ := h
  obtain ⟨C, hC, hmk⟩ := make_all (P := Try.prog) 22 2 ds.length 1 8 Try.underlying22 Try.infoI (by omega) (by omega)
  rw [Nat.mul_one] at hC
  have HC := Lib.hid hC; have Hp := Lib.hid hp; have Hl := Lib.hid hl; have Hc := Lib.hid hc
  clear hC hp hl hc
  obtain ⟨b0, Hb0, Hd⟩ : ∃ b0 : Nat, Hid (b0 < w.heap.size ∨ b0 = w.heap.size + 3) ∧ Hid (∀ j (hj : j < ds.length), ∃ o, A = some ⟨b0, o, none⟩ ∧ b0 < w.heap.size ∧ w.cell? ⟨b0, o + j, none⟩ = some (.int .i64 ds[j])) := by
    by_cases hz : 0 < ds.length
    · obtain ⟨b, o, e, hb, _⟩ := hx 0 hz
      refine ⟨b, Lib.hid (.inl (by omega)), Lib.hid fun j hj => ?_⟩
      obtain ⟨b2, o2, e2, hb2, hcj, _⟩ := hx j hj
      rw [e] at e2
      cases e2
      exact ⟨o, e, by omega, hcj⟩
    · exact ⟨w.heap.size + 3, Lib.hid (.inr rfl), Lib.hid fun j hj => absurd hj (by omega)⟩
  clear hx
  have HA := Lib.hid (alloc4 w (.cells #[.int .i64 i] 2) (.cells C 2) (.cells #[.slice (some ⟨w.heap.size + 1, 0, none⟩) ds.length ds.length] 22) (.cells #[.slice A ds.length cap] 41))
  refine callsIn_of_wp_marks Try.func74 rfl h49 ?_ hro
  simp only [Try.ntmps74, List.size_toArray, List.length_cons, List.length_nil, Nat.reduceAdd, Nat.reduceSub, Array.replicate_succ, Array.replicate_zero, List.push_toArray, List.append_toArray, List.nil_append, List.cons_append]
  gi_wp2_with (gi_at_call 76; refine (bwd_in F (n - 1) h62 hro _ _ _ _).mono ?_; rintro e w' ⟨rfl, rfl⟩)
  generalize ((((w.alloc (.cells #[.int .i64 i] 2)).alloc (.cells C 2)).alloc (.cells #[.slice (some ⟨w.heap.size + 1, 0, none⟩) ds.length ds.length] 22)).alloc (.cells #[.slice A ds.length cap] 41)) = w4 at *
  have HBx : Hid (w4.cell? ⟨w.heap.size + 3, 0, none⟩ = some (.slice A ds.length cap)) := Lib.hid (by rw [cell_of_row _ _ _ _ _ _ HA.out.2.2.2.1]; rfl)
  have Hz : Hid (w4.heap.size = w.heap.size + 4) := Lib.hid HA.out.2.2.2.2.1
  have HD4 : Hid (∀ j (hj : j < ds.length), ∃ o, A = some ⟨b0, o, none⟩ ∧ w4.cell? ⟨b0, o + j, none⟩ = some (.int .i64 ds[j])) := Lib.hid (fun j hj => by
    obtain ⟨o, e, hlt, hcj⟩ := Hd.out j hj
    exact ⟨o, e, (HA.out.2.2.2.2.2.cell (p := ⟨b0, o + j, none⟩) hlt).trans hcj⟩)
  refine wpIn_rangeFunc_ownG hro h1 (gf := 77) (lb := #[.pointer (some ⟨w.heap.size + 3, 0, none⟩)]) rfl h67 (enters_of Try.func77 (by kernel_rfl) rfl)
    (bwd_stops F (n - 1) h67 hro (by omega) (w.heap.size + 3) cap b0 A ds Hl.out Hc.out w4 (by rw [Hz.out]; omega) HBx.out (by have := Hb0.out; rw [Hz.out]; omega) HD4.out) kpS_t (kpS_b (by have := Hb0.out; rw [Hz.out]; omega) (by rw [Hz.out]; omega)) (Below.refl _ _) (fun _ => rfl)
    (CrdI w ds i C) (fun _ _ _ => False) (crdI_own w ds i C _ (by rw [Hz.out]; exact Nat.le_refl _)) (fun _ _ _ _ _ hs _ _ => hs)
    ⟨HA.out.1, HA.out.2.1, HA.out.2.2.1, HA.out.2.2.2.2.2⟩
    (fun x => { tmps := #[.slice A ds.length cap, .int .i64 i, undef, .pointer (some ⟨w.heap.size, 0, none⟩), .slice none 0 0, .pointer (some ⟨w.heap.size + 2, 0, none⟩), .int .i64 (x.1.1 : Int), .int .i64 x.1.2, .slice A ds.length cap, .int .i64 (ds.length : Int), .slice (some ⟨w.heap.size + 1, 0, none⟩) ds.length ds.length, .slice A ds.length cap, .func (.func 77) #[] #[.pointer (some ⟨w.heap.size + 3, 0, none⟩)], .int .i64 (x.1.1 : Int), .int .i64 x.1.2, undef, undef, undef, undef, undef, undef, undef, undef, undef, undef], defers := [] }) ?assign ?body ?done ?stop
  case assign =>
    intro l x W K hK
    gi_wp2
    exact hK
  case body =>
    rintro l pre x W hI _
    have HI := Lib.hid hI; clear hI
    obtain ⟨⟨j, d⟩, hj, hdm⟩ := x
    have hd := Hp.out d hdm
    have Hq : Hid (0 ≤ (stq i C (pre.map (·.1))).1 ∧ (stq i C (pre.map (·.1))).1 ≤ i) := Lib.hid (stq_bd i C h0 _ (fun y hy => by
      obtain ⟨z, _, rfl⟩ := List.mem_map.1 hy
      exact (Hp.out _ z.2.2).1))
    have Hsz : Hid ((stq i C (pre.map (·.1))).2.size = ds.length) := Lib.hid (by rw [stq_size, HC.out])
    obtain ⟨q, hq⟩ : ∃ q, (stq i C (pre.map (·.1))).1 = q := ⟨_, rfl⟩
    obtain ⟨C', hC'⟩ : ∃ C', (stq i C (pre.map (·.1))).2 = C' := ⟨_, rfl⟩
    obtain ⟨r, hr⟩ : ∃ r, q.tmod d = r := ⟨_, rfl⟩
    obtain ⟨q', hq'⟩ : ∃ q', q.tdiv d = q' := ⟨_, rfl⟩
    have HI2 := Lib.hid HI.out
    unfold CrdI at HI2
    rw [hq, hC'] at HI2
    have Hsz2 : Hid (C'.size = ds.length) := Lib.hid (hC' ▸ Hsz.out)
    have hqb : 0 ≤ q ∧ q ≤ i := hq ▸ Hq.out
    have hrb : 0 ≤ r ∧ r < d := by rw [← hr]; exact ⟨Int.tmod_nonneg _ hqb.1, Int.tmod_lt_of_pos _ hd.1⟩
    have hqb' : 0 ≤ q' ∧ q' ≤ q := by rw [← hq']; exact ⟨Int.tdiv_nonneg hqb.1 (by omega), Int.tdiv_le_self _ hqb.1⟩
    have Hnew : Hid (stq i C ((pre ++ [(⟨(j, d), hj, hdm⟩ : Dx ds)]).map (fun x : Dx ds => x.1)) = (q', C'.setIfInBounds j (.int .i64 r))) := Lib.hid (by
      rw [List.map_append, List.map_cons, List.map_nil, stq_snoc, hq, hC', hr, hq'])
    clear hq hC'
    have hw1 : IntKind.i64.wrap r = r := IntWalk.i64_in _ (by omega)
    have hw2 : IntKind.i64.wrap q' = q' := IntWalk.i64_in _ (by omega)
    have hne : ¬ (d = 0) := by omega
    have c0 : W.cell? ⟨w.heap.size, 0, none⟩ = some (.int .i64 q) := by rw [cell_of_row _ _ _ _ _ _ HI2.out.1]; rfl
    have f0 : W.frozen? ⟨w.heap.size, 0, none⟩ = false := frozen_of_row _ _ _ _ _ HI2.out.1
    have c2 : W.cell? ⟨w.heap.size + 1 + 1, 0, none⟩ = some (.slice (some ⟨w.heap.size + 1, 0, none⟩) ds.length ds.length) := by rw [cell_of_row _ _ _ _ _ _ HI2.out.2.2.1]; rfl
    obtain ⟨u, hu0⟩ : ∃ u, C'[j]? = some u := ⟨_, Array.getElem?_eq_getElem (by rw [Hsz2.out]; exact hj)⟩
    have c1 : W.cell? ⟨w.heap.size + 1, j, none⟩ = some u := by rw [cell_of_row _ _ _ _ _ _ HI2.out.2.1]; exact hu0
    have f1 : W.frozen? ⟨w.heap.size + 1, j, none⟩ = false := frozen_of_row _ _ _ _ _ HI2.out.2.1
    have Hend : Hid (CrdI w ds i C (pre ++ [(⟨(j, d), hj, hdm⟩ : Dx ds)]) ((W.setCell ⟨w.heap.size + 1, j, none⟩ (.int .i64 r)).setCell ⟨w.heap.size, 0, none⟩ (.int .i64 q'))) := Lib.hid (by
      unfold CrdI
      rw [Hnew.out]
      refine ⟨?_, ?_, ?_, ?_⟩
      · have hh := heap_setCell_same (W.setCell ⟨w.heap.size + 1, j, none⟩ (.int .i64 r)) w.heap.size 0 #[.int .i64 q] 2 (.int .i64 q') ?_
        · simpa using hh
        rw [heap_setCell_other _ ⟨w.heap.size + 1, j, none⟩ _ _ (show w.heap.size ≠ w.heap.size + 1 by omega)]; exact HI2.out.1
      · rw [heap_setCell_other _ ⟨w.heap.size, 0, none⟩ _ _ (show w.heap.size + 1 ≠ w.heap.size by omega)]; exact heap_setCell_same _ _ _ _ _ _ HI2.out.2.1
      · rw [heap_setCell_other _ ⟨w.heap.size, 0, none⟩ _ _ (show w.heap.size + 2 ≠ w.heap.size by omega), heap_setCell_other _ ⟨w.heap.size + 1, j, none⟩ _ _ (show w.heap.size + 2 ≠ w.heap.size + 1 by omega)]; exact HI2.out.2.2.1
      · exact (HI2.out.2.2.2.setCell (p := ⟨w.heap.size + 1, j, none⟩) (by simp) _).setCell (p := ⟨w.heap.size, 0, none⟩) (Nat.le_refl _) _)
    have Hkp : Hid (KpS b0 (w.heap.size + 3) W ((W.setCell ⟨w.heap.size + 1, j, none⟩ (.int .i64 r)).setCell ⟨w.heap.size, 0, none⟩ (.int .i64 q'))) := Lib.hid (by
      have hb := Hb0.out
      constructor
      · rw [heap_setCell_other _ ⟨w.heap.size, 0, none⟩ _ _ (show b0 ≠ w.heap.size by omega), heap_setCell_other _ ⟨w.heap.size + 1, j, none⟩ _ _ (show b0 ≠ w.heap.size + 1 by omega)]
      · rw [heap_setCell_other _ ⟨w.heap.size, 0, none⟩ _ _ (show w.heap.size + 3 ≠ w.heap.size by omega), heap_setCell_other _ ⟨w.heap.size + 1, j, none⟩ _ _ (show w.heap.size + 3 ≠ w.heap.size + 1 by omega)])
    have Hfin : Hid (KeepsFrom w4.heap.size W ((W.setCell ⟨w.heap.size + 1, j, none⟩ (.int .i64 r)).setCell ⟨w.heap.size, 0, none⟩ (.int .i64 q')).drew ∧ KpS b0 (w.heap.size + 3) W ((W.setCell ⟨w.heap.size + 1, j, none⟩ (.int .i64 r)).setCell ⟨w.heap.size, 0, none⟩ (.int .i64 q')).drew ∧ CrdI w ds i C (pre ++ [(⟨(j, d), hj, hdm⟩ : Dx ds)]) ((W.setCell ⟨w.heap.size + 1, j, none⟩ (.int .i64 r)).setCell ⟨w.heap.size, 0, none⟩ (.int .i64 q')).drew) :=
      Lib.hid ⟨((KeepsOthers.setCell _ _ _).trans ((KeepsOthers.setCell _ _ _).trans (KeepsOthers.drew _))).from _, Hkp.out, Hend.out.1, Hend.out.2.1, Hend.out.2.2.1, Hend.out.2.2.2.drew⟩
    clear hu0
    gi_wp2
    gi_region
    all_goals gi_wp2
    all_goals exact Hfin.out
  case done =>
    rintro D ys W hD hys hI hK
    have HI := Lib.hid hI; clear hI
    have Hrow : Hid (Row W (w.heap.size + 1) (crds ds i)) := Lib.hid (CrdRow.row (C := (stq i C (ys.map (·.1))).2) ⟨HI.out.2.1, by rw [stq_size, HC.out], fun k hk _ => by rw [hys]; exact (stq_dn ds i C HC.out ds.length 0 (by omega)).2 k hk (Nat.zero_le _)⟩)
    clear hys
    have c2 : W.cell? ⟨w.heap.size + 1 + 1, 0, none⟩ = some (.slice (some ⟨w.heap.size + 1, 0, none⟩) ds.length ds.length) := by rw [cell_of_row _ _ _ _ _ _ HI.out.2.2.1]; rfl
    have Hg : Hid (W.grownBy (W.putObj D (.deferred none)) (some D)) := Lib.hid (grownBy_putObj' W D (.deferred none))
    have Ho : Hid (OI W w.heap.size (.slice (some ⟨w.heap.size + 1, 0, none⟩) ds.length ds.length) (crds ds i)) := Lib.hid (by simpa [crds_length] using OI.of_row Hrow.out (show w.heap.size ≤ w.heap.size + 1 by omega) (by rw [crds_length]; unfold maxLen; omega))
    have HDz : Hid (w.heap.size + 4 ≤ D) := Lib.hid (by have := Hz.out; omega)
    have HK := Lib.hid hK
    gi_wp2
    refine ⟨by simp, .inl ⟨_, _, rfl, run_takeDeferred HK.out, ?_⟩⟩
    refine ⟨_, results_tmp rfl _ _ _, _, rfl, ?_, ?_⟩
    · exact Ho.out.same fun g hg => Hg.out.block g (Ho.out.wi g hg).2 (fun e => by
        have h2 := HDz.out
        simp [Value.ownBlock] at hg
        cases e
        omega)
    · exact HI.out.2.2.2.trans (belowK_b (w := w) (Nat.le_refl _) W D _ _ (by have := HDz.out; omega) HK.out rfl rfl)
  case stop =>
    rintro D c pre W _ _ h _
    exact h.elim
end Go.Proofs.Ytmghbgnalkkppaa
