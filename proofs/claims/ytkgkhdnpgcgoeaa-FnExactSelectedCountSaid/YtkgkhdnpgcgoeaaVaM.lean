/- Which selections are valid for dimensions; contract of the model's check. No statement is proved here. -/
import Derived.Test.YtkgkhdnpgcgoeaaFoM
import Derived.Test.YtkgkhdnpgcgoeaaPick
namespace Go.Proofs.Ytkgkhdnpgcgoeaa
open Go.RowKit
set_option linter.unusedVariables false
def endAt (ds S T C K : List Int) (i : Nat) : Bool := decide (axEnd (S.getD i 0) (T.getD i 0) (C.getD i 0) (K.getD i 0) ≤ ds.getD i 0)
def slabIn (ds S T C K : List Int) : Bool := decide (S.length = ds.length) && allTo (endAt ds S T C K) ds.length
def kindIn (ds : List Int) (k : Int) (S T C K : List Int) (ps : List (List Int)) : Bool := if k = 3 then slabIn ds S T C K else if k = 4 then withinB ds ps else true
def validB (ds : List Int) (k : Int) (S T C K : List Int) (ps : List (List Int)) : Bool := dimsOk ds && (formedB k S T C K ps && kindIn ds k S T C K ps)
theorem endAt_at {ds S T C K : List Int} {i : Nat} (h0 : i < ds.length) (h1 : i < S.length) (h2 : i < T.length) (h3 : i < C.length) (h4 : i < K.length) : endAt ds S T C K i = decide (axEnd S[i] T[i] C[i] K[i] ≤ ds[i]) := by
  unfold endAt; rw [getD_at _ _ h0, getD_at _ _ h1, getD_at _ _ h2, getD_at _ _ h3, getD_at _ _ h4]
theorem slab_ax {S T C K : List Int} (h : slabOk S T C K = true) {i : Nat} (h1 : i < S.length) (h2 : i < T.length) (h3 : i < C.length) (h4 : i < K.length) : axOk S[i] T[i] C[i] K[i] = true := by
  have := allTo_at (Bool.and_eq_true_iff.1 h).2 h1
  rwa [slabAt_at h1 h2 h3 h4] at this
theorem slab_lens {S T C K : List Int} (h : slabOk S T C K = true) : S.length ≤ 3 ∧ T.length = S.length ∧ C.length = S.length ∧ K.length = S.length := slabLens_iff.1 (Bool.and_eq_true_iff.1 h).1
theorem slabIn_len {ds S T C K : List Int} (h : S.length ≠ ds.length) : slabIn ds S T C K = false := by simp [slabIn, h]
theorem slabIn_bad {ds S T C K : List Int} {i : Nat} (hi : i < ds.length) (h : endAt ds S T C K i = false) : slabIn ds S T C K = false := by simp [slabIn, allTo_bad _ i _ hi h]
theorem slabIn_end {ds S T C K : List Int} (hl : S.length = ds.length) (h : allTo (endAt ds S T C K) ds.length = true) : slabIn ds S T C K = true := by simp [slabIn, hl, h]
theorem formed_r {B : Nat} {w : World} {k : Int} {v1 v2 v3 v4 v5 : Value} {S T C K : List Int} {ps : List (List Int)} {r : Bool} (h1 : Ri B w v1 S) (h2 : Ri B w v2 T) (h3 : Ri B w v3 C) (h4 : Ri B w v4 K) (h5 : RiP B w v5 ps) (hB : B ≤ w.heap.size) (hr : formedB k S T C K ps = r) :
    Calls Try.prog 38 #[.agg #[.int .i64 k, v1, v2, v3, v4, v5]] w (GivesB (.bool r) w) := by
  subst hr
  exact l06Formed_any h1 h2 h3 h4 h5 hB
set_option maxHeartbeats 4000000 in
set_option maxRecDepth 100000 in
theorem l06Valid_any {B : Nat} {w : World} {k : Int} {v0 v1 v2 v3 v4 v5 : Value} {ds S T C K : List Int} {ps : List (List Int)} (h0 : Ri B w v0 ds) (h1 : Ri B w v1 S) (h2 : Ri B w v2 T) (h3 : Ri B w v3 C) (h4 : Ri B w v4 K) (h5 : RiP B w v5 ps) (hB : B ≤ w.heap.size) :
    Calls Try.prog 42 #[v0, .agg #[.int .i64 k, v1, v2, v3, v4, v5]] w (GivesB (.bool (validB ds k S T C K ps)) w) := by
  have H0 := Lib.hid h0; have H1 := Lib.hid h1; have H2 := Lib.hid h2; have H3 := Lib.hid h3; have H4 := Lib.hid h4; have H5 := Lib.hid h5
  obtain ⟨A0, c0, rfl, -, hm0, hx0⟩ := h0
  obtain ⟨A1, c1, rfl, -, hm1, hx1⟩ := h1
  obtain ⟨A2, c2, rfl, -, hm2, hx2⟩ := h2
  obtain ⟨A3, c3, rfl, -, hm3, hx3⟩ := h3
  obtain ⟨A4, c4, rfl, -, hm4, hx4⟩ := h4
  obtain ⟨A5, c5, rfl, hl5, hm5, hx5⟩ := h5
  have Hx0 := Lib.hid hx0; have Hx1 := Lib.hid hx1; have Hx2 := Lib.hid hx2; have Hx3 := Lib.hid hx3; have Hx4 := Lib.hid hx4; have Hx5 := Lib.hid hx5
  clear hx0 hx1 hx2 hx3 hx4 hx5
  unfold maxLen at hm0 hm1 hm2 hm3 hm4 hm5
  have Hb0 : Hid (Below w.heap.size w (w.alloc (.cells #[.int .i64 k, .slice A1 S.length c1, .slice A2 T.length c2, .slice A3 C.length c3, .slice A4 K.length c4, .slice A5 ps.length c5] 30))) := Lib.hid ((Below.refl _ w).alloc (Nat.le_refl _) _)
  have HX0 := Lib.hid (SelBox.start w 30 k A1 A2 A3 A4 A5 S.length T.length C.length K.length ps.length c1 c2 c3 c4 c5)
  generalize hr : validB ds k S T C K ps = r
  unfold validB at hr
  by_cases hd : dimsOk ds = true
  rotate_left
  · have Hd : Hid (dimsOk ds = false) := Lib.hid (by simpa using hd)
    have Hf : Hid (r = false) := Lib.hid (by rw [← hr, Hd.out]; rfl)
    clear hd hr
    go_enter Try.func42, Try.ntmps42
    go_wp2_with (go_at_call 73; (with_reducible refine (dims_no (H0.out.at hB Hb0.out) Hd.out).mono ?_); rintro e w' ⟨rfl, rfl⟩)
    go_ret
    exact ⟨by rw [Hf.out]; rfl, Hb0.out⟩
  have Hd := Lib.hid hd
  rw [hd, Bool.true_and] at hr
  generalize hfo : formedB k S T C K ps = fo at hr
  have Hfo := Lib.hid hfo
  clear hd hfo
  cases fo
  · have Hf : Hid (r = false) := Lib.hid (by rw [← hr]; rfl)
    clear hr
    go_enter Try.func42, Try.ntmps42
    go_wp2_with (go_at_call 73; (with_reducible refine (dims_yes (H0.out.at hB Hb0.out) Hd.out).mono ?_); rintro e w' ⟨rfl, rfl⟩)
    refine (formed_r (H1.out.at hB Hb0.out) (H2.out.at hB Hb0.out) (H3.out.at hB Hb0.out) (H4.out.at hB Hb0.out) (H5.out.at hB Hb0.out) (Nat.le_refl _) Hfo.out).mono ?_
    rintro e w1 ⟨rfl, g⟩
    have Hb1 : Hid (Below w.heap.size w w1) := Lib.hid (Hb0.out.trans (g.mono Hb0.out.size))
    clear g
    go_wp2_with fail
    go_ret
    exact ⟨by rw [Hf.out]; rfl, Hb1.out⟩
  rw [Bool.true_and] at hr
  unfold kindIn at hr
  have hk : k = 3 ∨ k = 4 ∨ (k ≠ 3 ∧ k ≠ 4) := by omega
  rcases hk with rfl | rfl | ⟨hk3, hk4⟩
  · rw [if_pos rfl] at hr
    have Hr := Lib.hid hr
    have hso : slabOk S T C K = true := by
      have := Hfo.out
      unfold formedB at this
      simp at this
      exact this.2
    have Hso := Lib.hid hso
    obtain ⟨l1, l2, l3, l4⟩ := slab_lens hso
    have L2 := Lib.hid l2; have L3 := Lib.hid l3; have L4 := Lib.hid l4
    clear hr hso l2 l3 l4 Hx5 hl5
    generalize hn5 : ps.length = n5 at *
    have Hn5 := Lib.hid hn5
    clear hn5
    by_cases hl : S.length = ds.length
    rotate_left
    · have Hf : Hid (r = false) := Lib.hid (by rw [← Hr.out]; exact slabIn_len hl)
      have q1 : ((S.length : Int) == (ds.length : Int)) = false := by simp; omega
      have q2 : ((S.length : Int) != (ds.length : Int)) = true := by simp; omega
      have q3 : ¬ ((S.length : Int) = (ds.length : Int)) := by omega
      clear hl
      go_enter Try.func42, Try.ntmps42
      go_wp2_with (go_at_call 73; (with_reducible refine (dims_yes (H0.out.at hB Hb0.out) Hd.out).mono ?_); rintro e w' ⟨rfl, rfl⟩)
      refine (formed_r (H1.out.at hB Hb0.out) (H2.out.at hB Hb0.out) (H3.out.at hB Hb0.out) (H4.out.at hB Hb0.out) (H5.out.at hB Hb0.out) (Nat.le_refl _) Hfo.out).mono ?_
      rintro e w1 ⟨rfl, g⟩
      have Hb1 : Hid (Below w.heap.size w w1) := Lib.hid (Hb0.out.trans (g.mono Hb0.out.size))
      obtain ⟨x0, x1, x2, x3, x4, x5, x6⟩ := HX0.out.go g
      clear g
      go_wp2_with fail
      go_ret
      exact ⟨by rw [Hf.out]; rfl, Hb1.out⟩
    have Hl := Lib.hid hl
    have q1 : (S.length : Int) = (ds.length : Int) := by omega
    clear hl
    go_enter Try.func42, Try.ntmps42
    go_wp2_with (go_at_call 73; (with_reducible refine (dims_yes (H0.out.at hB Hb0.out) Hd.out).mono ?_); rintro e w' ⟨rfl, rfl⟩)
    clear q1
    refine (formed_r (H1.out.at hB Hb0.out) (H2.out.at hB Hb0.out) (H3.out.at hB Hb0.out) (H4.out.at hB Hb0.out) (H5.out.at hB Hb0.out) (Nat.le_refl _) Hfo.out).mono ?_
    rintro e w1 ⟨rfl, g⟩
    have Hb1 : Hid (Below w.heap.size w w1) := Lib.hid (Hb0.out.trans (g.mono Hb0.out.size))
    have HX1 := Lib.hid (HX0.out.go g)
    obtain ⟨x0, x1, x2, x3, x4, x5, x6⟩ := HX0.out.go g
    have q1 : (S.length : Int) = (ds.length : Int) := by have := Hl.out; omega
    clear g
    go_wp2_with fail
    clear x0 x1 x2 x3 x4 x5 q1
    go_loopw [5] (fun i wr => ∃ j : Nat, j ≤ ds.length ∧ i = .int .i64 j ∧ Below w.heap.size w wr ∧ SelBox w wr 3 A1 A2 A3 A4 A5 S.length T.length C.length K.length n5 c1 c2 c3 c4 c5 ∧ allTo (endAt ds S T C K) j = true) (fun i _ => ds.length - (intOf i).toNat)
    case atStart => exact ⟨0, Nat.zero_le _, rfl, Hb1.out, HX1.out, allTo_zero _⟩
    case round =>
      obtain ⟨j, hj, rfl, hbel, hbox, hall⟩ := hrel
      have Hall := Lib.hid hall; have Hbel := Lib.hid hbel; have Hbox := Lib.hid hbox
      clear hall hbox
      by_cases hlt0 : j < ds.length
      · have hlt : j < S.length := by have := Hl.out; omega
        have hlt2 : j < T.length := by have := L2.out; omega
        have hlt3 : j < C.length := by have := L3.out; omega
        have hlt4 : j < K.length := by have := L4.out; omega
        obtain ⟨b0, o0, rfl, hb0, hq0, hI0⟩ := Hx0.out j hlt0
        obtain ⟨b1, o1, rfl, hb1, hq1, hI1⟩ := Hx1.out j hlt
        obtain ⟨b2, o2, rfl, hb2, hq2, hI2⟩ := Hx2.out j hlt2
        obtain ⟨b3, o3, rfl, hb3, hq3, hI3⟩ := Hx3.out j hlt3
        obtain ⟨b4, o4, rfl, hb4, hq4, hI4⟩ := Hx4.out j hlt4
        have g0 : wr.cell? ⟨b0, o0 + j, none⟩ = some (.int .i64 ds[j]) := by rw [hbel.cell (p := ⟨b0, o0 + j, none⟩) (show b0 < _ from by omega)]; exact hq0
        have g1 : wr.cell? ⟨b1, o1 + j, none⟩ = some (.int .i64 S[j]) := by rw [hbel.cell (p := ⟨b1, o1 + j, none⟩) (show b1 < _ from by omega)]; exact hq1
        have g2 : wr.cell? ⟨b2, o2 + j, none⟩ = some (.int .i64 T[j]) := by rw [hbel.cell (p := ⟨b2, o2 + j, none⟩) (show b2 < _ from by omega)]; exact hq2
        have g3 : wr.cell? ⟨b3, o3 + j, none⟩ = some (.int .i64 C[j]) := by rw [hbel.cell (p := ⟨b3, o3 + j, none⟩) (show b3 < _ from by omega)]; exact hq3
        have g4 : wr.cell? ⟨b4, o4 + j, none⟩ = some (.int .i64 K[j]) := by rw [hbel.cell (p := ⟨b4, o4 + j, none⟩) (show b4 < _ from by omega)]; exact hq4
        have Hp := Lib.hid (endAt_at (ds := ds) (S := S) (T := T) (C := C) (K := K) hlt0 hlt hlt2 hlt3 hlt4)
        have Hk2 := Lib.hid (allTo_succ (endAt ds S T C K) j)
        have Hbad : Hid (endAt ds S T C K j = false → r = false) := Lib.hid (fun h => by rw [← Hr.out]; exact slabIn_bad hlt0 h)
        obtain ⟨p1, p2, p3, p4, p5, p6, p7, -⟩ := axOk_iff.1 (slab_ax Hso.out hlt hlt2 hlt3 hlt4)
        have hbs := hbel.size
        have z0 : b0 < wr.heap.size := by omega
        clear hq0 hq1 hq2 hq3 hq4 hI0 hI1 hI2 hI3 hI4 hbel
        generalize ds[j] = dj at *
        generalize S[j] = s at *
        generalize T[j] = t at *
        generalize C[j] = c at *
        generalize K[j] = b at *
        obtain ⟨x0, x1, x2, x3, x4, x5, x6⟩ := Hbox.out
        have HE : Hid (Calls Try.prog 74 #[.agg #[.int .i64 3, .slice (some ⟨b1, o1, none⟩) S.length c1, .slice (some ⟨b2, o2, none⟩) T.length c2, .slice (some ⟨b3, o3, none⟩) C.length c3, .slice (some ⟨b4, o4, none⟩) K.length c4, .slice A5 n5 c5], .int .i64 (j : Int)] wr.drew (GivesB (.int .i64 (axEnd s t c b)) wr.drew)) :=
          Lib.hid (l06End_any wr.drew 3 A5 b1 o1 b2 o2 b3 o3 b4 o4 _ _ _ _ n5 c1 c2 c3 c4 c5 j s t c b g1 g2 g3 g4 hlt hlt2 hlt3 hlt4 (by omega) p1 p2 p3 p4 p5 p6 p7)
        have HSS : Hid (∀ W, Below wr.heap.size wr W → W.cell? ⟨w.heap.size, 0, none⟩ = some (.int .i64 3) ∧ W.cell? ⟨w.heap.size, 1, none⟩ = some (.slice (some ⟨b1, o1, none⟩) S.length c1) ∧ W.cell? ⟨w.heap.size, 2, none⟩ = some (.slice (some ⟨b2, o2, none⟩) T.length c2) ∧ W.cell? ⟨w.heap.size, 3, none⟩ = some (.slice (some ⟨b3, o3, none⟩) C.length c3) ∧ W.cell? ⟨w.heap.size, 4, none⟩ = some (.slice (some ⟨b4, o4, none⟩) K.length c4) ∧ W.cell? ⟨w.heap.size, 5, none⟩ = some (.slice A5 n5 c5) ∧ W.cell? ⟨b0, o0 + j, none⟩ = some (.int .i64 dj)) := Lib.hid (fun W hW => by
          have e : ∀ (q jj : Nat), q < wr.heap.size → W.cell? ⟨q, jj, none⟩ = wr.cell? ⟨q, jj, none⟩ := fun q jj hq => hW.cell (p := ⟨q, jj, none⟩) hq
          exact ⟨by rw [e _ _ x6]; exact x0, by rw [e _ _ x6]; exact x1, by rw [e _ _ x6]; exact x2, by rw [e _ _ x6]; exact x3, by rw [e _ _ x6]; exact x4, by rw [e _ _ x6]; exact x5, by rw [e _ _ z0]; exact g0⟩)
        generalize axEnd s t c b = ae at *
        clear p1 p2 p3 p4 p5 p6 p7
        by_cases a5 : ae ≤ dj
        · have Hall2 : Hid (allTo (endAt ds S T C K) (j + 1) = true) := Lib.hid (by rw [Hk2.out, Hall.out, Hp.out]; simpa using a5)
          have q7 : decide (dj < ae) = false := decide_eq_false (by omega)
          clear Hbad
          go_wp2
          clear g0 g1 g2 g3 g4 x0 x1 x2 x3 x4 x5
          go_region_held3 (fun W => W.cell? ⟨w.heap.size, 0, none⟩ = some (.int .i64 3) ∧ W.cell? ⟨w.heap.size, 1, none⟩ = some (.slice (some ⟨b1, o1, none⟩) S.length c1) ∧ W.cell? ⟨w.heap.size, 2, none⟩ = some (.slice (some ⟨b2, o2, none⟩) T.length c2) ∧ W.cell? ⟨w.heap.size, 3, none⟩ = some (.slice (some ⟨b3, o3, none⟩) C.length c3) ∧ W.cell? ⟨w.heap.size, 4, none⟩ = some (.slice (some ⟨b4, o4, none⟩) K.length c4) ∧ W.cell? ⟨w.heap.size, 5, none⟩ = some (.slice A5 n5 c5) ∧ W.cell? ⟨b0, o0 + j, none⟩ = some (.int .i64 dj)) (exact HSS.out _ (by first | exact kb | exact (Below.refl _ _).drew))
            ((first | (go_at_call 74; go_fit HE.out; rintro e u1 ⟨rfl, g⟩; have kb : Below wr.heap.size wr u1 := (Below.refl _ _).drew.trans g)))
          have Kb := Lib.hid kb
          clear kb
          try simp only [Exit.then]
          go_wp2
          go_roundw
          case rel => exact ⟨j + 1, by omega, by go_num, Hbel.out.trans (Kb.out.mono Hbel.out.size), Hbox.out.go Kb.out, Hall2.out⟩
          case measure => simp [intOf]; omega
        · have Hf : Hid (r = false) := Lib.hid (Hbad.out (by rw [Hp.out]; simpa using a5))
          have q7 : decide (dj < ae) = true := decide_eq_true (by omega)
          clear Hbad
          go_wp2
          clear g0 g1 g2 g3 g4 x0 x1 x2 x3 x4 x5
          go_region_held3 (fun W => W.cell? ⟨w.heap.size, 0, none⟩ = some (.int .i64 3) ∧ W.cell? ⟨w.heap.size, 1, none⟩ = some (.slice (some ⟨b1, o1, none⟩) S.length c1) ∧ W.cell? ⟨w.heap.size, 2, none⟩ = some (.slice (some ⟨b2, o2, none⟩) T.length c2) ∧ W.cell? ⟨w.heap.size, 3, none⟩ = some (.slice (some ⟨b3, o3, none⟩) C.length c3) ∧ W.cell? ⟨w.heap.size, 4, none⟩ = some (.slice (some ⟨b4, o4, none⟩) K.length c4) ∧ W.cell? ⟨w.heap.size, 5, none⟩ = some (.slice A5 n5 c5) ∧ W.cell? ⟨b0, o0 + j, none⟩ = some (.int .i64 dj)) (exact HSS.out _ (by first | exact kb | exact (Below.refl _ _).drew))
            ((first | (go_at_call 74; go_fit HE.out; rintro e u1 ⟨rfl, g⟩; have kb : Below wr.heap.size wr u1 := (Below.refl _ _).drew.trans g)))
          have Kb := Lib.hid kb
          clear kb
          try simp only [Exit.then]
          go_wp2
          go_ret
          exact ⟨by rw [Hf.out]; rfl, Hbel.out.trans (Kb.out.mono Hbel.out.size)⟩
      · have Hf : Hid (r = true) := Lib.hid (by rw [← Hr.out]; exact slabIn_end Hl.out (by rw [show ds.length = j by omega]; exact Hall.out))
        clear hbel
        go_wp2
        go_ret
        exact ⟨by rw [Hf.out]; rfl, Hbel.out⟩
  · rw [if_neg (by decide), if_pos rfl] at hr
    have Hr := Lib.hid hr
    clear hr
    go_enter Try.func42, Try.ntmps42
    go_wp2_with (go_at_call 73; (with_reducible refine (dims_yes (H0.out.at hB Hb0.out) Hd.out).mono ?_); rintro e w' ⟨rfl, rfl⟩)
    refine (formed_r (H1.out.at hB Hb0.out) (H2.out.at hB Hb0.out) (H3.out.at hB Hb0.out) (H4.out.at hB Hb0.out) (H5.out.at hB Hb0.out) (Nat.le_refl _) Hfo.out).mono ?_
    rintro e w1 ⟨rfl, g⟩
    have Hb1 : Hid (Below w.heap.size w w1) := Lib.hid (Hb0.out.trans (g.mono Hb0.out.size))
    have HX1 := Lib.hid (HX0.out.go g)
    obtain ⟨x0, x1, x2, x3, x4, x5, x6⟩ := HX0.out.go g
    clear g
    go_wp2_with fail
    clear x0 x1 x2 x3 x4 x5
    go_loopw [6] (fun i wr => ∃ j : Nat, j ≤ ps.length ∧ i = .int .i64 j ∧ Below w.heap.size w wr ∧ SelBox w wr 4 A1 A2 A3 A4 A5 S.length T.length C.length K.length ps.length c1 c2 c3 c4 c5 ∧ allTo (fun i => inside ds (ps.getD i [])) j = true) (fun i _ => ps.length - (intOf i).toNat)
    case atStart => exact ⟨0, Nat.zero_le _, rfl, Hb1.out, HX1.out, allTo_zero _⟩
    case round =>
      obtain ⟨j, hj, rfl, hbel, hbox, hall⟩ := hrel
      have Hall := Lib.hid hall; have Hbel := Lib.hid hbel; have Hbox := Lib.hid hbox
      clear hall hbox
      obtain ⟨x0, x1, x2, x3, x4, x5, x6⟩ := Hbox.out
      by_cases hlt : j < ps.length
      · obtain ⟨b, o, q, rfl, hb, hq, hri⟩ := Hx5.out j hlt
        have g1 : wr.cell? ⟨b, o + j, none⟩ = some q := by rw [hbel.cell (p := ⟨b, o + j, none⟩) (show b < _ from by omega)]; exact hq
        have Hri := Lib.hid (hri.at hB hbel)
        have Hrd := Lib.hid (H0.out.at hB hbel)
        obtain ⟨E, e0, rfl, -, -, -⟩ := hri
        have Hgd := Lib.hid (getD_pt ps j hlt)
        have Hs2 := Lib.hid (allTo_succ (fun i => inside ds (ps.getD i [])) j)
        have Hbad : Hid (inside ds ps[j] = false → r = false) := Lib.hid (fun h => by
          rw [← Hr.out]; exact allTo_bad (fun i => inside ds (ps.getD i [])) j _ hlt (by show inside ds (ps.getD j []) = false; rw [Hgd.out]; exact h))
        clear hq hbel
        cases hin : inside ds ps[j]
        · have Hin := Lib.hid hin
          have Hf : Hid (r = false) := Lib.hid (Hbad.out hin)
          clear hin Hbad
          go_wp2_with fail
          refine (inside_no Hrd.out Hri.out (Nat.le_refl _) Hd.out Hin.out).mono ?_
          rintro e w2 ⟨rfl, g⟩
          have Hb2 := Lib.hid (Hbel.out.trans (g.mono Hbel.out.size))
          clear g
          go_wp2_with fail
          go_ret
          exact ⟨by rw [Hf.out]; rfl, Hb2.out⟩
        · have Hin := Lib.hid hin
          have Hall2 : Hid (allTo (fun i => inside ds (ps.getD i [])) (j + 1) = true) := Lib.hid (by rw [Hs2.out, Hall.out]; show (true && inside ds (ps.getD j [])) = true; rw [Hgd.out, hin]; rfl)
          clear hin Hbad
          go_wp2_with fail
          refine (inside_yes Hrd.out Hri.out (Nat.le_refl _) Hd.out Hin.out).mono ?_
          rintro e w2 ⟨rfl, g⟩
          have Hb2 := Lib.hid (Hbel.out.trans (g.mono Hbel.out.size))
          have Hbx2 := Lib.hid (Hbox.out.go g)
          clear g x0 x1 x2 x3 x4 x5 g1
          go_wp2
          go_roundw
          case rel => exact ⟨j + 1, by omega, by go_num, Hb2.out, Hbx2.out, Hall2.out⟩
          case measure => simp [intOf]; omega
      · have Hf : Hid (r = true) := Lib.hid (by rw [← Hr.out]; unfold withinB; rw [show ps.length = j by omega]; exact Hall.out)
        clear hbel
        go_wp2
        go_ret
        exact ⟨by rw [Hf.out]; rfl, Hbel.out⟩
  · rw [if_neg hk3, if_neg hk4] at hr
    have k3 : (k == 3) = false := by simpa using hk3
    have k4 : (k == 4) = false := by simpa using hk4
    have Hr := Lib.hid hr
    clear hr hk3 hk4
    go_enter Try.func42, Try.ntmps42
    go_wp2_with (go_at_call 73; (with_reducible refine (dims_yes (H0.out.at hB Hb0.out) Hd.out).mono ?_); rintro e w' ⟨rfl, rfl⟩)
    refine (formed_r (H1.out.at hB Hb0.out) (H2.out.at hB Hb0.out) (H3.out.at hB Hb0.out) (H4.out.at hB Hb0.out) (H5.out.at hB Hb0.out) (Nat.le_refl _) Hfo.out).mono ?_
    rintro e w1 ⟨rfl, g⟩
    have Hb1 : Hid (Below w.heap.size w w1) := Lib.hid (Hb0.out.trans (g.mono Hb0.out.size))
    obtain ⟨x0, x1, x2, x3, x4, x5, x6⟩ := HX0.out.go g
    clear g
    go_wp2_with fail
    go_ret
    exact ⟨by rw [← Hr.out]; rfl, Hb1.out⟩
end Go.Proofs.Ytkgkhdnpgcgoeaa
