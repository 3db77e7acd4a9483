/- Which nodes are valid, by the program. No statement is proved here. -/
import Derived.Test.YtabnglimchjgpaaChR
namespace Go.Proofs.Ytabnglimchjgpaa
open Go.RowKit
set_option linter.unusedVariables false
theorem keysOf_any {B : Nat} {w : World} {v0 v1 v2 : Value} {cs : List EC} {ks ds : List Int} (lf : Bool) (h0 : RiC B w v0 cs) (h1 : Ri B w v1 ks) (h2 : Ri B w v2 ds) (hB : B ≤ w.heap.size) (hs : cs.length ≤ 1048576) :
    Calls Try.prog 81 #[.agg #[.bool lf, v0, v1, v2]] w fun e w' => ∃ v, e = .returned v ∧ Ri w'.heap.size w' v (if lf then keyL cs else ks) ∧ Below w.heap.size w w' := by
  cases lf
  · exact (keysN_any h0 h1 h2 hB).mono fun e w' ⟨he, g⟩ => ⟨v1, he, h1.at hB g, g⟩
  · exact keysL_any h0 h1 h2 hB hs
theorem nodeOk_parts (lf : Bool) (cs : List EC) (ks ds : List Int) : nodeOk lf cs ks ds = (rises (if lf then keyL cs else ks) && (if lf then (((decide (ks.length = 0) && decide (ds.length = 0)) && decide (cs.length ≤ 8)) && allTo (chAt cs) cs.length) else ((((decide (cs.length = 0) && decide (1 ≤ ks.length)) && decide (ks.length ≤ 7)) && decide (ds.length = ks.length + 1)) && allTo (kidAt ds) ds.length))) := by
  cases lf
  · simp only [nodeOk, inB, Bool.false_eq_true, if_false]
    rw [Bool.eq_iff_iff]
    simp only [Bool.and_eq_true, decide_eq_true_eq]
    constructor
    · rintro ⟨⟨⟨⟨x1, x2⟩, x3⟩, x4⟩, x5, x6⟩
      exact ⟨x5, ⟨⟨⟨x4, by omega⟩, by omega⟩, x3⟩, x6⟩
    · rintro ⟨x5, ⟨⟨⟨x4, x1⟩, x2⟩, x3⟩, x6⟩
      exact ⟨⟨⟨⟨by omega, by omega⟩, x3⟩, x4⟩, x5, x6⟩
  · simp only [nodeOk, if_true]
    rw [Bool.eq_iff_iff]
    simp only [Bool.and_eq_true, decide_eq_true_eq]
    constructor
    · rintro ⟨⟨x1, x2, x3⟩, x5, x6⟩
      exact ⟨x5, ⟨⟨x2, x3⟩, x1⟩, x6⟩
    · rintro ⟨x5, ⟨⟨x2, x3⟩, x1⟩, x6⟩
      exact ⟨⟨x1, x2, x3⟩, x5, x6⟩
set_option maxHeartbeats 40000000 in
set_option maxRecDepth 100000 in
theorem implValidLeaf_any {B : Nat} {w : World} {v0 v1 v2 : Value} {cs : List EC} {ks ds : List Int} (h0 : RiC B w v0 cs) (h1 : Ri B w v1 ks) (h2 : Ri B w v2 ds) (hB : B ≤ w.heap.size) (hs : cs.length ≤ 1048576) :
    Calls Try.prog 38 #[.agg #[.bool true, v0, v1, v2]] w (GivesB (.bool (nodeOk true cs ks ds)) w) := by
  have H0 := Lib.hid h0; have H1 := Lib.hid h1; have H2 := Lib.hid h2
  obtain ⟨A0, c0, rfl, hl0, hm0, -⟩ := h0
  obtain ⟨A1, c1, rfl, hl1, hm1, -⟩ := h1
  obtain ⟨A2, c2, rfl, hl2, hm2, -⟩ := h2
  unfold maxLen at hm0 hm1 hm2
  have HE := Lib.hid (nodeOk_parts true cs ks ds)
  simp only [if_true] at HE
  generalize nodeOk true cs ks ds = r at *
  have C1 := Lib.hid (fun (W : World) (g : Below w.heap.size w W) => by have h := keysOf_any true (H0.out.at hB g) (H1.out.at hB g) (H2.out.at hB g) (Nat.le_refl _) hs; simp only [if_true] at h; exact h)
  have C3 := Lib.hid (fun (W : World) (g : Below w.heap.size w W) => hasC_any (H0.out.at hB g) (Nat.le_refl _))
  generalize allTo (chAt cs) cs.length = al at *
  generalize cs.length = m at *; generalize ks.length = n at *; generalize ds.length = p at *
  generalize keyL cs = zs at *
  have HB0 : Hid (Below w.heap.size w (w.alloc (.cells #[.bool true, .slice A0 m c0, .slice A1 n c1, .slice A2 p c2] 54))) := Lib.hid ((Below.refl _ w).alloc (Nat.le_refl _) _)
  have HR0 : Hid ((w.alloc (.cells #[.bool true, .slice A0 m c0, .slice A1 n c1, .slice A2 p c2] 54)).heap[w.heap.size]? = some (.cells #[.bool true, .slice A0 m c0, .slice A1 n c1, .slice A2 p c2] 54 (0, 0))) := Lib.hid (heap_alloc_new w _)
  have HZ0 : Hid (w.heap.size < (w.alloc (.cells #[.bool true, .slice A0 m c0, .slice A1 n c1, .slice A2 p c2] 54)).heap.size) := Lib.hid (by simp)
  clear H0 H1 H2 hs
  go_enter Try.func38, Try.ntmps38
  go_wp2_with fail
  generalize (w.alloc (.cells #[.bool true, .slice A0 m c0, .slice A1 n c1, .slice A2 p c2] 54)) = w0 at *
  have C1x := Lib.hid (C1.out w0 HB0.out)
  clear C1
  have zz : True := trivial
  cases hrs : rises zs
  · have Hf : Hid (r = false) := Lib.hid (by rw [HE.out, hrs]; rfl)
    go_wp2_with (first | (clear zz; refine wpList_load_row rfl 54 (.tmp 1) rfl _ rfl 54 _ (0, 0) _ HR0.out Try.underlying54 rfl (by kernel_rfl) ?_) | (go_at_call 81; refine C1x.out.mono ?_; rintro e w1 ⟨v, rfl, hr, g⟩; have HQ := Lib.hid hr; have R1 := Lib.hid ((g.block _ HZ0.out).trans HR0.out); have Z1 : Hid (w.heap.size < w1.heap.size) := Lib.hid (by have := HZ0.out; have := g.size; omega); have Hb1 := Lib.hid (HB0.out.trans (g.mono HB0.out.size)); clear hr g) | (go_at_call 80; refine (areKeys_any HQ.out (Nat.le_refl _)).mono ?_; rintro e w2 ⟨rfl, g⟩; have R2 := Lib.hid ((g.block _ Z1.out).trans R1.out); have Hb2 := Lib.hid (Hb1.out.trans (g.mono Hb1.out.size)); have p0 : w2.cell? ⟨w.heap.size, 0, none⟩ = some (.bool true) := (by rw [cell_of_row _ _ _ _ _ _ R2.out]; rfl); have p1 : w2.cell? ⟨w.heap.size, 1, none⟩ = some (.slice A0 m c0) := (by rw [cell_of_row _ _ _ _ _ _ R2.out]; rfl); have p2 : w2.cell? ⟨w.heap.size, 2, none⟩ = some (.slice A1 n c1) := (by rw [cell_of_row _ _ _ _ _ _ R2.out]; rfl); have p3 : w2.cell? ⟨w.heap.size, 3, none⟩ = some (.slice A2 p c2) := (by rw [cell_of_row _ _ _ _ _ _ R2.out]; rfl); rw [hrs]; clear g R1 HQ R2) | (go_at_call 82; refine (C3.out _ Hb2.out).mono ?_; rintro e w3 ⟨rfl, g⟩; have Hb3 := Lib.hid (Hb2.out.trans (g.mono Hb2.out.size)); clear g))
    go_ret
    exact ⟨by rw [Hf.out]; rfl, Hb2.out⟩
  have HE2 := HE.out; rw [hrs, Bool.true_and] at HE2; have HE := Lib.hid HE2; clear HE2
  by_cases hc1 : n = 0
  rotate_left 1
  · have Hf : Hid (r = false) := Lib.hid (by rw [HE.out]; simp [hc1])
    have e1 : ((n : Int) == 0) = false := by simp [hc1]
    have e2 : ¬ ((n : Int) = 0) := by omega
    go_wp2_with (first | (clear zz; refine wpList_load_row rfl 54 (.tmp 1) rfl _ rfl 54 _ (0, 0) _ HR0.out Try.underlying54 rfl (by kernel_rfl) ?_) | (go_at_call 81; refine C1x.out.mono ?_; rintro e w1 ⟨v, rfl, hr, g⟩; have HQ := Lib.hid hr; have R1 := Lib.hid ((g.block _ HZ0.out).trans HR0.out); have Z1 : Hid (w.heap.size < w1.heap.size) := Lib.hid (by have := HZ0.out; have := g.size; omega); have Hb1 := Lib.hid (HB0.out.trans (g.mono HB0.out.size)); clear hr g) | (go_at_call 80; refine (areKeys_any HQ.out (Nat.le_refl _)).mono ?_; rintro e w2 ⟨rfl, g⟩; have R2 := Lib.hid ((g.block _ Z1.out).trans R1.out); have Hb2 := Lib.hid (Hb1.out.trans (g.mono Hb1.out.size)); have p0 : w2.cell? ⟨w.heap.size, 0, none⟩ = some (.bool true) := (by rw [cell_of_row _ _ _ _ _ _ R2.out]; rfl); have p1 : w2.cell? ⟨w.heap.size, 1, none⟩ = some (.slice A0 m c0) := (by rw [cell_of_row _ _ _ _ _ _ R2.out]; rfl); have p2 : w2.cell? ⟨w.heap.size, 2, none⟩ = some (.slice A1 n c1) := (by rw [cell_of_row _ _ _ _ _ _ R2.out]; rfl); have p3 : w2.cell? ⟨w.heap.size, 3, none⟩ = some (.slice A2 p c2) := (by rw [cell_of_row _ _ _ _ _ _ R2.out]; rfl); rw [hrs]; clear g R1 HQ R2) | (go_at_call 82; refine (C3.out _ Hb2.out).mono ?_; rintro e w3 ⟨rfl, g⟩; have Hb3 := Lib.hid (Hb2.out.trans (g.mono Hb2.out.size)); clear g))
    go_ret
    exact ⟨by rw [Hf.out]; rfl, Hb2.out⟩
  subst hc1
  by_cases hc2 : p = 0
  rotate_left 1
  · have Hf : Hid (r = false) := Lib.hid (by rw [HE.out]; simp [hc2])
    have e1 : ((p : Int) == 0) = false := by simp [hc2]
    have e2 : ¬ ((p : Int) = 0) := by omega
    go_wp2_with (first | (clear zz; refine wpList_load_row rfl 54 (.tmp 1) rfl _ rfl 54 _ (0, 0) _ HR0.out Try.underlying54 rfl (by kernel_rfl) ?_) | (go_at_call 81; refine C1x.out.mono ?_; rintro e w1 ⟨v, rfl, hr, g⟩; have HQ := Lib.hid hr; have R1 := Lib.hid ((g.block _ HZ0.out).trans HR0.out); have Z1 : Hid (w.heap.size < w1.heap.size) := Lib.hid (by have := HZ0.out; have := g.size; omega); have Hb1 := Lib.hid (HB0.out.trans (g.mono HB0.out.size)); clear hr g) | (go_at_call 80; refine (areKeys_any HQ.out (Nat.le_refl _)).mono ?_; rintro e w2 ⟨rfl, g⟩; have R2 := Lib.hid ((g.block _ Z1.out).trans R1.out); have Hb2 := Lib.hid (Hb1.out.trans (g.mono Hb1.out.size)); have p0 : w2.cell? ⟨w.heap.size, 0, none⟩ = some (.bool true) := (by rw [cell_of_row _ _ _ _ _ _ R2.out]; rfl); have p1 : w2.cell? ⟨w.heap.size, 1, none⟩ = some (.slice A0 m c0) := (by rw [cell_of_row _ _ _ _ _ _ R2.out]; rfl); have p2 : w2.cell? ⟨w.heap.size, 2, none⟩ = some (.slice A1 0 c1) := (by rw [cell_of_row _ _ _ _ _ _ R2.out]; rfl); have p3 : w2.cell? ⟨w.heap.size, 3, none⟩ = some (.slice A2 p c2) := (by rw [cell_of_row _ _ _ _ _ _ R2.out]; rfl); rw [hrs]; clear g R1 HQ R2) | (go_at_call 82; refine (C3.out _ Hb2.out).mono ?_; rintro e w3 ⟨rfl, g⟩; have Hb3 := Lib.hid (Hb2.out.trans (g.mono Hb2.out.size)); clear g))
    go_ret
    exact ⟨by rw [Hf.out]; rfl, Hb2.out⟩
  subst hc2
  by_cases hc3 : m ≤ 8
  rotate_left 1
  · have Hf : Hid (r = false) := Lib.hid (by rw [HE.out]; simp [hc3])
    have e1 : decide ((m : Int) ≤ 8) = false := decide_eq_false (by omega)
    go_wp2_with (first | (clear zz; refine wpList_load_row rfl 54 (.tmp 1) rfl _ rfl 54 _ (0, 0) _ HR0.out Try.underlying54 rfl (by kernel_rfl) ?_) | (go_at_call 81; refine C1x.out.mono ?_; rintro e w1 ⟨v, rfl, hr, g⟩; have HQ := Lib.hid hr; have R1 := Lib.hid ((g.block _ HZ0.out).trans HR0.out); have Z1 : Hid (w.heap.size < w1.heap.size) := Lib.hid (by have := HZ0.out; have := g.size; omega); have Hb1 := Lib.hid (HB0.out.trans (g.mono HB0.out.size)); clear hr g) | (go_at_call 80; refine (areKeys_any HQ.out (Nat.le_refl _)).mono ?_; rintro e w2 ⟨rfl, g⟩; have R2 := Lib.hid ((g.block _ Z1.out).trans R1.out); have Hb2 := Lib.hid (Hb1.out.trans (g.mono Hb1.out.size)); have p0 : w2.cell? ⟨w.heap.size, 0, none⟩ = some (.bool true) := (by rw [cell_of_row _ _ _ _ _ _ R2.out]; rfl); have p1 : w2.cell? ⟨w.heap.size, 1, none⟩ = some (.slice A0 m c0) := (by rw [cell_of_row _ _ _ _ _ _ R2.out]; rfl); have p2 : w2.cell? ⟨w.heap.size, 2, none⟩ = some (.slice A1 0 c1) := (by rw [cell_of_row _ _ _ _ _ _ R2.out]; rfl); have p3 : w2.cell? ⟨w.heap.size, 3, none⟩ = some (.slice A2 0 c2) := (by rw [cell_of_row _ _ _ _ _ _ R2.out]; rfl); rw [hrs]; clear g R1 HQ R2) | (go_at_call 82; refine (C3.out _ Hb2.out).mono ?_; rintro e w3 ⟨rfl, g⟩; have Hb3 := Lib.hid (Hb2.out.trans (g.mono Hb2.out.size)); clear g))
    go_ret
    exact ⟨by rw [Hf.out]; rfl, Hb2.out⟩
  have k8 : decide ((m : Int) ≤ 8) = true := decide_eq_true (by omega)
  have Hf : Hid (r = al) := Lib.hid (by rw [HE.out]; simp [hc3])
  clear HE
  go_wp2_with (first | (clear zz; refine wpList_load_row rfl 54 (.tmp 1) rfl _ rfl 54 _ (0, 0) _ HR0.out Try.underlying54 rfl (by kernel_rfl) ?_) | (go_at_call 81; refine C1x.out.mono ?_; rintro e w1 ⟨v, rfl, hr, g⟩; have HQ := Lib.hid hr; have R1 := Lib.hid ((g.block _ HZ0.out).trans HR0.out); have Z1 : Hid (w.heap.size < w1.heap.size) := Lib.hid (by have := HZ0.out; have := g.size; omega); have Hb1 := Lib.hid (HB0.out.trans (g.mono HB0.out.size)); clear hr g) | (go_at_call 80; refine (areKeys_any HQ.out (Nat.le_refl _)).mono ?_; rintro e w2 ⟨rfl, g⟩; have R2 := Lib.hid ((g.block _ Z1.out).trans R1.out); have Hb2 := Lib.hid (Hb1.out.trans (g.mono Hb1.out.size)); have p0 : w2.cell? ⟨w.heap.size, 0, none⟩ = some (.bool true) := (by rw [cell_of_row _ _ _ _ _ _ R2.out]; rfl); have p1 : w2.cell? ⟨w.heap.size, 1, none⟩ = some (.slice A0 m c0) := (by rw [cell_of_row _ _ _ _ _ _ R2.out]; rfl); have p2 : w2.cell? ⟨w.heap.size, 2, none⟩ = some (.slice A1 0 c1) := (by rw [cell_of_row _ _ _ _ _ _ R2.out]; rfl); have p3 : w2.cell? ⟨w.heap.size, 3, none⟩ = some (.slice A2 0 c2) := (by rw [cell_of_row _ _ _ _ _ _ R2.out]; rfl); rw [hrs]; clear g R1 HQ R2) | (go_at_call 82; refine (C3.out _ Hb2.out).mono ?_; rintro e w3 ⟨rfl, g⟩; have Hb3 := Lib.hid (Hb2.out.trans (g.mono Hb2.out.size)); clear g))
  go_ret
  exact ⟨by rw [Hf.out]; cases al <;> rfl, Hb3.out⟩
set_option maxHeartbeats 40000000 in
set_option maxRecDepth 100000 in
theorem implValidInner_any {B : Nat} {w : World} {v0 v1 v2 : Value} {cs : List EC} {ks ds : List Int} (h0 : RiC B w v0 cs) (h1 : Ri B w v1 ks) (h2 : Ri B w v2 ds) (hB : B ≤ w.heap.size) (hs : cs.length ≤ 1048576) :
    Calls Try.prog 38 #[.agg #[.bool false, v0, v1, v2]] w (GivesB (.bool (nodeOk false cs ks ds)) w) := by
  have H0 := Lib.hid h0; have H1 := Lib.hid h1; have H2 := Lib.hid h2
  obtain ⟨A0, c0, rfl, hl0, hm0, -⟩ := h0
  obtain ⟨A1, c1, rfl, hl1, hm1, -⟩ := h1
  obtain ⟨A2, c2, rfl, hl2, hm2, -⟩ := h2
  unfold maxLen at hm0 hm1 hm2
  have HE := Lib.hid (nodeOk_parts false cs ks ds)
  simp only [Bool.false_eq_true, if_false] at HE
  generalize nodeOk false cs ks ds = r at *
  have C1 := Lib.hid (fun (W : World) (g : Below w.heap.size w W) => by have h := keysOf_any false (H0.out.at hB g) (H1.out.at hB g) (H2.out.at hB g) (Nat.le_refl _) hs; simp only [Bool.false_eq_true, if_false] at h; exact h)
  have C3 := Lib.hid (fun (W : World) (g : Below w.heap.size w W) => hasK_any (H2.out.at hB g) (Nat.le_refl _))
  generalize allTo (kidAt ds) ds.length = al at *
  generalize cs.length = m at *; generalize ks.length = n at *; generalize ds.length = p at *
  generalize ks = zs at *
  have HB0 : Hid (Below w.heap.size w (w.alloc (.cells #[.bool false, .slice A0 m c0, .slice A1 n c1, .slice A2 p c2] 54))) := Lib.hid ((Below.refl _ w).alloc (Nat.le_refl _) _)
  have HR0 : Hid ((w.alloc (.cells #[.bool false, .slice A0 m c0, .slice A1 n c1, .slice A2 p c2] 54)).heap[w.heap.size]? = some (.cells #[.bool false, .slice A0 m c0, .slice A1 n c1, .slice A2 p c2] 54 (0, 0))) := Lib.hid (heap_alloc_new w _)
  have HZ0 : Hid (w.heap.size < (w.alloc (.cells #[.bool false, .slice A0 m c0, .slice A1 n c1, .slice A2 p c2] 54)).heap.size) := Lib.hid (by simp)
  clear H0 H1 H2 hs
  go_enter Try.func38, Try.ntmps38
  go_wp2_with fail
  generalize (w.alloc (.cells #[.bool false, .slice A0 m c0, .slice A1 n c1, .slice A2 p c2] 54)) = w0 at *
  have C1x := Lib.hid (C1.out w0 HB0.out)
  clear C1
  have zz : True := trivial
  cases hrs : rises zs
  · have Hf : Hid (r = false) := Lib.hid (by rw [HE.out, hrs]; rfl)
    go_wp2_with (first | (clear zz; refine wpList_load_row rfl 54 (.tmp 1) rfl _ rfl 54 _ (0, 0) _ HR0.out Try.underlying54 rfl (by kernel_rfl) ?_) | (go_at_call 81; refine C1x.out.mono ?_; rintro e w1 ⟨v, rfl, hr, g⟩; have HQ := Lib.hid hr; have R1 := Lib.hid ((g.block _ HZ0.out).trans HR0.out); have Z1 : Hid (w.heap.size < w1.heap.size) := Lib.hid (by have := HZ0.out; have := g.size; omega); have Hb1 := Lib.hid (HB0.out.trans (g.mono HB0.out.size)); clear hr g) | (go_at_call 80; refine (areKeys_any HQ.out (Nat.le_refl _)).mono ?_; rintro e w2 ⟨rfl, g⟩; have R2 := Lib.hid ((g.block _ Z1.out).trans R1.out); have Hb2 := Lib.hid (Hb1.out.trans (g.mono Hb1.out.size)); have p0 : w2.cell? ⟨w.heap.size, 0, none⟩ = some (.bool false) := (by rw [cell_of_row _ _ _ _ _ _ R2.out]; rfl); have p1 : w2.cell? ⟨w.heap.size, 1, none⟩ = some (.slice A0 m c0) := (by rw [cell_of_row _ _ _ _ _ _ R2.out]; rfl); have p2 : w2.cell? ⟨w.heap.size, 2, none⟩ = some (.slice A1 n c1) := (by rw [cell_of_row _ _ _ _ _ _ R2.out]; rfl); have p3 : w2.cell? ⟨w.heap.size, 3, none⟩ = some (.slice A2 p c2) := (by rw [cell_of_row _ _ _ _ _ _ R2.out]; rfl); rw [hrs]; clear g R1 HQ R2) | (go_at_call 84; refine (C3.out _ Hb2.out).mono ?_; rintro e w3 ⟨rfl, g⟩; have Hb3 := Lib.hid (Hb2.out.trans (g.mono Hb2.out.size)); clear g))
    go_ret
    exact ⟨by rw [Hf.out]; rfl, Hb2.out⟩
  have HE2 := HE.out; rw [hrs, Bool.true_and] at HE2; have HE := Lib.hid HE2; clear HE2
  by_cases hc1 : m = 0
  rotate_left 1
  · have Hf : Hid (r = false) := Lib.hid (by rw [HE.out]; simp [hc1])
    have e1 : ((m : Int) == 0) = false := by simp [hc1]
    have e2 : ¬ ((m : Int) = 0) := by omega
    go_wp2_with (first | (clear zz; refine wpList_load_row rfl 54 (.tmp 1) rfl _ rfl 54 _ (0, 0) _ HR0.out Try.underlying54 rfl (by kernel_rfl) ?_) | (go_at_call 81; refine C1x.out.mono ?_; rintro e w1 ⟨v, rfl, hr, g⟩; have HQ := Lib.hid hr; have R1 := Lib.hid ((g.block _ HZ0.out).trans HR0.out); have Z1 : Hid (w.heap.size < w1.heap.size) := Lib.hid (by have := HZ0.out; have := g.size; omega); have Hb1 := Lib.hid (HB0.out.trans (g.mono HB0.out.size)); clear hr g) | (go_at_call 80; refine (areKeys_any HQ.out (Nat.le_refl _)).mono ?_; rintro e w2 ⟨rfl, g⟩; have R2 := Lib.hid ((g.block _ Z1.out).trans R1.out); have Hb2 := Lib.hid (Hb1.out.trans (g.mono Hb1.out.size)); have p0 : w2.cell? ⟨w.heap.size, 0, none⟩ = some (.bool false) := (by rw [cell_of_row _ _ _ _ _ _ R2.out]; rfl); have p1 : w2.cell? ⟨w.heap.size, 1, none⟩ = some (.slice A0 m c0) := (by rw [cell_of_row _ _ _ _ _ _ R2.out]; rfl); have p2 : w2.cell? ⟨w.heap.size, 2, none⟩ = some (.slice A1 n c1) := (by rw [cell_of_row _ _ _ _ _ _ R2.out]; rfl); have p3 : w2.cell? ⟨w.heap.size, 3, none⟩ = some (.slice A2 p c2) := (by rw [cell_of_row _ _ _ _ _ _ R2.out]; rfl); rw [hrs]; clear g R1 HQ R2) | (go_at_call 84; refine (C3.out _ Hb2.out).mono ?_; rintro e w3 ⟨rfl, g⟩; have Hb3 := Lib.hid (Hb2.out.trans (g.mono Hb2.out.size)); clear g))
    go_ret
    exact ⟨by rw [Hf.out]; rfl, Hb2.out⟩
  subst hc1
  by_cases hc2 : 1 ≤ n
  rotate_left 1
  · have Hf : Hid (r = false) := Lib.hid (by rw [HE.out]; simp [hc2])
    obtain rfl : n = 0 := by omega
    go_wp2_with (first | (clear zz; refine wpList_load_row rfl 54 (.tmp 1) rfl _ rfl 54 _ (0, 0) _ HR0.out Try.underlying54 rfl (by kernel_rfl) ?_) | (go_at_call 81; refine C1x.out.mono ?_; rintro e w1 ⟨v, rfl, hr, g⟩; have HQ := Lib.hid hr; have R1 := Lib.hid ((g.block _ HZ0.out).trans HR0.out); have Z1 : Hid (w.heap.size < w1.heap.size) := Lib.hid (by have := HZ0.out; have := g.size; omega); have Hb1 := Lib.hid (HB0.out.trans (g.mono HB0.out.size)); clear hr g) | (go_at_call 80; refine (areKeys_any HQ.out (Nat.le_refl _)).mono ?_; rintro e w2 ⟨rfl, g⟩; have R2 := Lib.hid ((g.block _ Z1.out).trans R1.out); have Hb2 := Lib.hid (Hb1.out.trans (g.mono Hb1.out.size)); have p0 : w2.cell? ⟨w.heap.size, 0, none⟩ = some (.bool false) := (by rw [cell_of_row _ _ _ _ _ _ R2.out]; rfl); have p1 : w2.cell? ⟨w.heap.size, 1, none⟩ = some (.slice A0 0 c0) := (by rw [cell_of_row _ _ _ _ _ _ R2.out]; rfl); have p2 : w2.cell? ⟨w.heap.size, 2, none⟩ = some (.slice A1 0 c1) := (by rw [cell_of_row _ _ _ _ _ _ R2.out]; rfl); have p3 : w2.cell? ⟨w.heap.size, 3, none⟩ = some (.slice A2 p c2) := (by rw [cell_of_row _ _ _ _ _ _ R2.out]; rfl); rw [hrs]; clear g R1 HQ R2) | (go_at_call 84; refine (C3.out _ Hb2.out).mono ?_; rintro e w3 ⟨rfl, g⟩; have Hb3 := Lib.hid (Hb2.out.trans (g.mono Hb2.out.size)); clear g))
    go_ret
    exact ⟨by rw [Hf.out]; rfl, Hb2.out⟩
  have k1 : decide ((1 : Int) ≤ (n : Int)) = true := decide_eq_true (by omega)
  have k2 : decide (0 < n) = true := decide_eq_true (by omega)
  have k3 : decide (1 ≤ n) = true := decide_eq_true hc2
  have k4 : 0 < n := by omega
  have k5 : decide ((0 : Int) < (n : Int)) = true := decide_eq_true (by omega)
  by_cases hc3 : n ≤ 7
  rotate_left 1
  · have Hf : Hid (r = false) := Lib.hid (by rw [HE.out]; simp [hc3])
    have e1 : decide ((n : Int) ≤ 7) = false := decide_eq_false (by omega)
    go_wp2_with (first | (clear zz; refine wpList_load_row rfl 54 (.tmp 1) rfl _ rfl 54 _ (0, 0) _ HR0.out Try.underlying54 rfl (by kernel_rfl) ?_) | (go_at_call 81; refine C1x.out.mono ?_; rintro e w1 ⟨v, rfl, hr, g⟩; have HQ := Lib.hid hr; have R1 := Lib.hid ((g.block _ HZ0.out).trans HR0.out); have Z1 : Hid (w.heap.size < w1.heap.size) := Lib.hid (by have := HZ0.out; have := g.size; omega); have Hb1 := Lib.hid (HB0.out.trans (g.mono HB0.out.size)); clear hr g) | (go_at_call 80; refine (areKeys_any HQ.out (Nat.le_refl _)).mono ?_; rintro e w2 ⟨rfl, g⟩; have R2 := Lib.hid ((g.block _ Z1.out).trans R1.out); have Hb2 := Lib.hid (Hb1.out.trans (g.mono Hb1.out.size)); have p0 : w2.cell? ⟨w.heap.size, 0, none⟩ = some (.bool false) := (by rw [cell_of_row _ _ _ _ _ _ R2.out]; rfl); have p1 : w2.cell? ⟨w.heap.size, 1, none⟩ = some (.slice A0 0 c0) := (by rw [cell_of_row _ _ _ _ _ _ R2.out]; rfl); have p2 : w2.cell? ⟨w.heap.size, 2, none⟩ = some (.slice A1 n c1) := (by rw [cell_of_row _ _ _ _ _ _ R2.out]; rfl); have p3 : w2.cell? ⟨w.heap.size, 3, none⟩ = some (.slice A2 p c2) := (by rw [cell_of_row _ _ _ _ _ _ R2.out]; rfl); rw [hrs]; clear g R1 HQ R2) | (go_at_call 84; refine (C3.out _ Hb2.out).mono ?_; rintro e w3 ⟨rfl, g⟩; have Hb3 := Lib.hid (Hb2.out.trans (g.mono Hb2.out.size)); clear g))
    go_ret
    exact ⟨by rw [Hf.out]; rfl, Hb2.out⟩
  have k7 : decide ((n : Int) ≤ 7) = true := decide_eq_true (by omega)
  have hwr : IntKind.i64.wrap ((n : Int) + 1) = (n : Int) + 1 := IntWalk.i64_in _ (by omega)
  by_cases hc4 : p = n + 1
  rotate_left 1
  · have Hf : Hid (r = false) := Lib.hid (by rw [HE.out]; simp [hc4])
    have e1 : ((p : Int) == (n : Int) + 1) = false := by simp; omega
    have e2 : ¬ ((p : Int) = (n : Int) + 1) := by omega
    go_wp2_with (first | (clear zz; refine wpList_load_row rfl 54 (.tmp 1) rfl _ rfl 54 _ (0, 0) _ HR0.out Try.underlying54 rfl (by kernel_rfl) ?_) | (go_at_call 81; refine C1x.out.mono ?_; rintro e w1 ⟨v, rfl, hr, g⟩; have HQ := Lib.hid hr; have R1 := Lib.hid ((g.block _ HZ0.out).trans HR0.out); have Z1 : Hid (w.heap.size < w1.heap.size) := Lib.hid (by have := HZ0.out; have := g.size; omega); have Hb1 := Lib.hid (HB0.out.trans (g.mono HB0.out.size)); clear hr g) | (go_at_call 80; refine (areKeys_any HQ.out (Nat.le_refl _)).mono ?_; rintro e w2 ⟨rfl, g⟩; have R2 := Lib.hid ((g.block _ Z1.out).trans R1.out); have Hb2 := Lib.hid (Hb1.out.trans (g.mono Hb1.out.size)); have p0 : w2.cell? ⟨w.heap.size, 0, none⟩ = some (.bool false) := (by rw [cell_of_row _ _ _ _ _ _ R2.out]; rfl); have p1 : w2.cell? ⟨w.heap.size, 1, none⟩ = some (.slice A0 0 c0) := (by rw [cell_of_row _ _ _ _ _ _ R2.out]; rfl); have p2 : w2.cell? ⟨w.heap.size, 2, none⟩ = some (.slice A1 n c1) := (by rw [cell_of_row _ _ _ _ _ _ R2.out]; rfl); have p3 : w2.cell? ⟨w.heap.size, 3, none⟩ = some (.slice A2 p c2) := (by rw [cell_of_row _ _ _ _ _ _ R2.out]; rfl); rw [hrs]; clear g R1 HQ R2) | (go_at_call 84; refine (C3.out _ Hb2.out).mono ?_; rintro e w3 ⟨rfl, g⟩; have Hb3 := Lib.hid (Hb2.out.trans (g.mono Hb2.out.size)); clear g))
    go_ret
    exact ⟨by rw [Hf.out]; rfl, Hb2.out⟩
  subst hc4
  have Hf : Hid (r = al) := Lib.hid (by rw [HE.out]; simp [hc2, hc3])
  clear HE
  go_wp2_with (first | (clear zz; refine wpList_load_row rfl 54 (.tmp 1) rfl _ rfl 54 _ (0, 0) _ HR0.out Try.underlying54 rfl (by kernel_rfl) ?_) | (go_at_call 81; refine C1x.out.mono ?_; rintro e w1 ⟨v, rfl, hr, g⟩; have HQ := Lib.hid hr; have R1 := Lib.hid ((g.block _ HZ0.out).trans HR0.out); have Z1 : Hid (w.heap.size < w1.heap.size) := Lib.hid (by have := HZ0.out; have := g.size; omega); have Hb1 := Lib.hid (HB0.out.trans (g.mono HB0.out.size)); clear hr g) | (go_at_call 80; refine (areKeys_any HQ.out (Nat.le_refl _)).mono ?_; rintro e w2 ⟨rfl, g⟩; have R2 := Lib.hid ((g.block _ Z1.out).trans R1.out); have Hb2 := Lib.hid (Hb1.out.trans (g.mono Hb1.out.size)); have p0 : w2.cell? ⟨w.heap.size, 0, none⟩ = some (.bool false) := (by rw [cell_of_row _ _ _ _ _ _ R2.out]; rfl); have p1 : w2.cell? ⟨w.heap.size, 1, none⟩ = some (.slice A0 0 c0) := (by rw [cell_of_row _ _ _ _ _ _ R2.out]; rfl); have p2 : w2.cell? ⟨w.heap.size, 2, none⟩ = some (.slice A1 n c1) := (by rw [cell_of_row _ _ _ _ _ _ R2.out]; rfl); have p3 : w2.cell? ⟨w.heap.size, 3, none⟩ = some (.slice A2 (n + 1) c2) := (by rw [cell_of_row _ _ _ _ _ _ R2.out]; rfl); rw [hrs]; clear g R1 HQ R2) | (go_at_call 84; refine (C3.out _ Hb2.out).mono ?_; rintro e w3 ⟨rfl, g⟩; have Hb3 := Lib.hid (Hb2.out.trans (g.mono Hb2.out.size)); clear g))
  go_ret
  exact ⟨by rw [Hf.out]; cases al <;> rfl, Hb3.out⟩
theorem implValidNode_any {B : Nat} {w : World} {v0 v1 v2 : Value} {cs : List EC} {ks ds : List Int} {lf : Bool} (h0 : RiC B w v0 cs) (h1 : Ri B w v1 ks) (h2 : Ri B w v2 ds) (hB : B ≤ w.heap.size) (hs : cs.length ≤ 1048576) :
    Calls Try.prog 38 #[.agg #[.bool lf, v0, v1, v2]] w (GivesB (.bool (nodeOk lf cs ks ds)) w) := by
  cases lf
  · exact implValidInner_any h0 h1 h2 hB hs
  · exact implValidLeaf_any h0 h1 h2 hB hs
end Go.Proofs.Ytabnglimchjgpaa
