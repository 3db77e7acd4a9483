/- Which nodes are valid, by the model: inner nodes; spec.ValidNode. No statement is proved here. -/
import Derived.Test.YtabnglimchjgpaaChN
namespace Go.Proofs.Ytabnglimchjgpaa
open Go.RowKit
set_option linter.unusedVariables false
theorem nodeI_eq {cs : List EC} {ks ds : List Int} : nodeOk false cs ks ds = (((inB ks.length 1 7 && decide (ds.length = ks.length + 1)) && decide (cs.length = 0)) && (rises ks && allTo (kidAt ds) ds.length)) := rfl
set_option maxHeartbeats 4000000 in
set_option maxRecDepth 100000 in
theorem l15Inner_any {B : Nat} {w : World} {v0 v1 v2 : Value} {cs : List EC} {ks ds : List Int} {lf : Bool} (hlf : lf = false) (h0 : RiC B w v0 cs) (h1 : Ri B w v1 ks) (h2 : Ri B w v2 ds) (hB : B ≤ w.heap.size) :
    Calls Try.prog 77 #[.agg #[.bool lf, v0, v1, v2]] w (GivesB (.bool (nodeOk false cs ks ds)) w) := by
  have H1 := Lib.hid h1
  obtain ⟨A0, c0, rfl, hl0, hm0, -⟩ := h0
  obtain ⟨A1, c1, rfl, hl1, hm1, -⟩ := h1
  obtain ⟨A2, c2, rfl, hl2, hm2, hx2⟩ := h2
  have Hx2 := Lib.hid hx2; clear hx2
  unfold maxLen at hm0 hm1 hm2
  subst hlf
  have HE := Lib.hid (nodeI_eq (cs := cs) (ks := ks) (ds := ds))
  generalize nodeOk false cs ks ds = r at *
  generalize hm : cs.length = m at *
  clear hm
  have HB0 : Hid (Below w.heap.size w (w.alloc (.cells #[.bool false, .slice A0 m c0, .slice A1 ks.length c1, .slice A2 ds.length c2] 54))) := Lib.hid ((Below.refl _ w).alloc (Nat.le_refl _) _)
  have HR0 : Hid ((w.alloc (.cells #[.bool false, .slice A0 m c0, .slice A1 ks.length c1, .slice A2 ds.length c2] 54)).heap[w.heap.size]? = some (.cells #[.bool false, .slice A0 m c0, .slice A1 ks.length c1, .slice A2 ds.length c2] 54 (0, 0))) := Lib.hid (heap_alloc_new w _)
  have HZ0 : Hid (w.heap.size < (w.alloc (.cells #[.bool false, .slice A0 m c0, .slice A1 ks.length c1, .slice A2 ds.length c2] 54)).heap.size) := Lib.hid (by simp)
  have q0 : (w.alloc (.cells #[.bool false, .slice A0 m c0, .slice A1 ks.length c1, .slice A2 ds.length c2] 54)).cell? ⟨w.heap.size, 0, none⟩ = some (.bool false) := by rw [cell_of_row _ _ _ _ _ _ HR0.out]; rfl
  have q1 : (w.alloc (.cells #[.bool false, .slice A0 m c0, .slice A1 ks.length c1, .slice A2 ds.length c2] 54)).cell? ⟨w.heap.size, 1, none⟩ = some (.slice A0 m c0) := by rw [cell_of_row _ _ _ _ _ _ HR0.out]; rfl
  have q2 : (w.alloc (.cells #[.bool false, .slice A0 m c0, .slice A1 ks.length c1, .slice A2 ds.length c2] 54)).cell? ⟨w.heap.size, 2, none⟩ = some (.slice A1 ks.length c1) := by rw [cell_of_row _ _ _ _ _ _ HR0.out]; rfl
  have q3 : (w.alloc (.cells #[.bool false, .slice A0 m c0, .slice A1 ks.length c1, .slice A2 ds.length c2] 54)).cell? ⟨w.heap.size, 3, none⟩ = some (.slice A2 ds.length c2) := by rw [cell_of_row _ _ _ _ _ _ HR0.out]; rfl
  have C1 := Lib.hid (fun W => l00In_any (ks.length : Int) 1 7 W)
  have C2 := Lib.hid (l00Rises_any (H1.out.at hB HB0.out) (Nat.le_refl _))
  cases hk : inB (ks.length : Int) 1 7
  · have Hf : Hid (r = false) := Lib.hid (by rw [HE.out, hk]; rfl)
    rw [hk] at C1
    clear hk
    go_enter Try.func77, Try.ntmps77
    go_wp2_with (go_at_call 63; refine (C1.out _).mono ?_; rintro e w' ⟨rfl, rfl⟩)
    go_ret
    exact ⟨by rw [Hf.out]; rfl, HB0.out⟩
  rw [hk] at C1
  have HK := Lib.hid hk
  have hki := inB_iff.1 hk
  have hwr : IntKind.i64.wrap ((ks.length : Int) + 1) = (ks.length : Int) + 1 := IntWalk.i64_in _ (by omega)
  clear hk hki
  by_cases hd : ds.length = ks.length + 1
  rotate_left 1
  · have Hf : Hid (r = false) := Lib.hid (by rw [HE.out]; simp [hd])
    have e1 : ((ds.length : Int) != (ks.length : Int) + 1) = true := by simp; omega
    have e2 : ¬ ((ds.length : Int) = (ks.length : Int) + 1) := by omega
    have e3 : ((ds.length : Int) == (ks.length : Int) + 1) = false := by simp; omega
    clear hd
    go_enter Try.func77, Try.ntmps77
    go_wp2_with (go_at_call 63; refine (C1.out _).mono ?_; rintro e w' ⟨rfl, rfl⟩)
    go_ret
    exact ⟨by rw [Hf.out]; rfl, HB0.out⟩
  have HD := Lib.hid hd
  have e2 : (ds.length : Int) = (ks.length : Int) + 1 := by omega
  clear hd
  by_cases hc : m = 0
  rotate_left 1
  · have Hf : Hid (r = false) := Lib.hid (by rw [HE.out]; simp [hc])
    have e3 : ((m : Int) != 0) = true := by simp [hc]
    have e4 : ¬ ((m : Int) = 0) := by omega
    have e5 : ((m : Int) == 0) = false := by simp [hc]
    clear hc
    go_enter Try.func77, Try.ntmps77
    go_wp2_with (go_at_call 63; refine (C1.out _).mono ?_; rintro e w' ⟨rfl, rfl⟩)
    go_ret
    exact ⟨by rw [Hf.out]; rfl, HB0.out⟩
  subst hc
  cases hr : rises ks
  · have Hf : Hid (r = false) := Lib.hid (by rw [HE.out, hr]; simp)
    rw [hr] at C2
    clear hr
    go_enter Try.func77, Try.ntmps77
    go_wp2_with (first | (go_at_call 63; refine (C1.out _).mono ?_; rintro e w' ⟨rfl, rfl⟩) | (go_at_call 107; refine C2.out.mono ?_; rintro e w' ⟨rfl, g⟩; have Hg := Lib.hid (HB0.out.trans (g.mono HB0.out.size)); clear g q0 q1 q2 q3))
    go_ret
    exact ⟨by rw [Hf.out]; rfl, Hg.out⟩
  rw [hr] at C2
  have HQ : Hid (r = allTo (kidAt ds) ds.length) := Lib.hid (by rw [HE.out, HK.out, hr]; simp [HD.out])
  have HBad : Hid (∀ k, k < ds.length → kidAt ds k = false → r = false) := Lib.hid (fun k hk h => by rw [HQ.out]; exact allTo_bad _ k _ hk h)
  clear hr HE HK
  go_enter Try.func77, Try.ntmps77
  go_wp2_with (first | (go_at_call 63; refine (C1.out _).mono ?_; rintro e w' ⟨rfl, rfl⟩) | (go_at_call 107; refine C2.out.mono ?_; rintro e w1 ⟨rfl, g⟩; have Hg := Lib.hid (HB0.out.trans (g.mono HB0.out.size)); have R1 := Lib.hid ((g.block _ HZ0.out).trans HR0.out); have Z1 : Hid (w.heap.size < w1.heap.size) := Lib.hid (by have := HZ0.out; have := g.size; omega); clear g q0 q1 q2 q3))
  clear e2 hwr
  go_loopw [4] (fun i wr => ∃ k : Nat, k ≤ ds.length ∧ i = .int .i64 (k : Int) ∧ Below w.heap.size w wr ∧ wr.heap[w.heap.size]? = some (.cells #[.bool false, .slice A0 0 c0, .slice A1 ks.length c1, .slice A2 ds.length c2] 54 (0, 0)) ∧ w.heap.size < wr.heap.size ∧ allTo (kidAt ds) k = true) (fun i _ => ds.length - (intOf i).toNat)
  case atStart => exact ⟨0, Nat.zero_le _, rfl, Hg.out, R1.out, Z1.out, allTo_zero _⟩
  case round =>
    obtain ⟨k, hk, rfl, hbel, hr0, hlt0, hall⟩ := hrel
    have Hall := Lib.hid hall; have Hbel := Lib.hid hbel; have R0 := Lib.hid hr0; have Lt0 := Lib.hid hlt0
    have q3 : wr.cell? ⟨w.heap.size, 3, none⟩ = some (.slice A2 ds.length c2) := by rw [cell_of_row _ _ _ _ _ _ R0.out]; rfl
    clear hall hr0 hlt0
    by_cases hlt : k < ds.length
    · obtain ⟨b, o, rfl, hb, hc0, -⟩ := Hx2.out k hlt
      have g1 := (hbel.cell (p := ⟨b, o + k, none⟩) (show b < _ by omega)).trans hc0
      have HS := Lib.hid (allTo_succ (kidAt ds) k)
      have HP := Lib.hid (kidAt_at hlt)
      have HF := Lib.hid (HBad.out k hlt)
      have CC := Lib.hid (l00In_any ds[k] 1 255 wr)
      clear hc0 hbel
      generalize ds[k] = x at *
      cases hn : inB x 1 255
      · have Hf := Lib.hid (HF.out (by rw [HP.out, hn]))
        rw [hn] at CC
        clear hn HP
        go_wp2_with (go_at_call 63; refine CC.out.mono ?_; rintro e w' ⟨rfl, hww⟩; have Hw : Hid (Below w.heap.size w w') := Lib.hid (hww ▸ Hbel.out); clear hww)
        go_ret
        exact ⟨by rw [Hf.out]; rfl, Hw.out⟩
      · have Hall2 : Hid (allTo (kidAt ds) (k + 1) = true) := Lib.hid (by rw [HS.out, Hall.out, HP.out, hn]; rfl)
        rw [hn] at CC
        clear hn HP
        go_wp2_with (go_at_call 63; refine CC.out.mono ?_; rintro e w' ⟨rfl, hww⟩; have Hw : Hid (Below w.heap.size w w' ∧ w'.heap[w.heap.size]? = some (.cells #[.bool false, .slice A0 0 c0, .slice A1 ks.length c1, .slice (some ⟨b, o, none⟩) ds.length c2] 54 (0, 0)) ∧ w.heap.size < w'.heap.size) := Lib.hid (hww ▸ ⟨Hbel.out, R0.out, Lt0.out⟩); clear hww)
        go_roundw
        case rel => exact ⟨k + 1, by omega, by go_num, Hw.out.1, Hw.out.2.1, Hw.out.2.2, Hall2.out⟩
        case measure => simp [intOf]; omega
    · obtain rfl : k = ds.length := by omega
      clear hbel
      have Hf : Hid (r = true) := Lib.hid (HQ.out.trans Hall.out)
      go_wp2
      go_ret
      exact ⟨by rw [Hf.out]; rfl, Hbel.out⟩
theorem l15Node_any {B : Nat} {w : World} {v0 v1 v2 : Value} {cs : List EC} {ks ds : List Int} (lf : Bool) (h0 : RiC B w v0 cs) (h1 : Ri B w v1 ks) (h2 : Ri B w v2 ds) (hB : B ≤ w.heap.size) :
    Calls Try.prog 77 #[.agg #[.bool lf, v0, v1, v2]] w (GivesB (.bool (nodeOk lf cs ks ds)) w) := by
  cases lf
  · exact l15Inner_any rfl h0 h1 h2 hB
  · exact l15Leaf_any rfl h0 h1 h2 hB
set_option maxHeartbeats 4000000 in
set_option maxRecDepth 100000 in
theorem specValidNode_any {B : Nat} {w : World} {v0 v1 v2 : Value} {cs : List EC} {ks ds : List Int} {lf : Bool} (h0 : RiC B w v0 cs) (h1 : Ri B w v1 ks) (h2 : Ri B w v2 ds) (hB : B ≤ w.heap.size) :
    Calls Try.prog 36 #[.agg #[.bool lf, v0, v1, v2]] w (GivesB (.bool (nodeOk lf cs ks ds)) w) := by
  have H0 := Lib.hid h0; have H1 := Lib.hid h1; have H2 := Lib.hid h2
  obtain ⟨A0, c0, rfl, -⟩ := h0
  obtain ⟨A1, c1, rfl, -⟩ := h1
  obtain ⟨A2, c2, rfl, -⟩ := h2
  have HB0 : Hid (Below w.heap.size w (w.alloc (.cells #[.bool lf, .slice A0 cs.length c0, .slice A1 ks.length c1, .slice A2 ds.length c2] 54))) := Lib.hid ((Below.refl _ w).alloc (Nat.le_refl _) _)
  have C1 := Lib.hid (l15Node_any lf (H0.out.at hB HB0.out) (H1.out.at hB HB0.out) (H2.out.at hB HB0.out) (Nat.le_refl _))
  generalize nodeOk lf cs ks ds = r at *
  go_enter Try.func36, Try.ntmps36
  go_wp2_with (first | (refine wpList_load_row rfl 54 (.tmp 1) rfl _ rfl 54 _ (0, 0) _ (heap_alloc_new w _) Try.underlying54 rfl (by kernel_rfl) ?_) | (go_at_call 77; refine C1.out.mono ?_; rintro e w' ⟨rfl, g⟩; have Hg := Lib.hid (HB0.out.trans (g.mono HB0.out.size)); clear g))
  go_ret
  exact ⟨rfl, Hg.out⟩
end Go.Proofs.Ytabnglimchjgpaa
