/- Contract of the model's check of a hyperslab. No statement is proved here. -/
import Derived.Test.YtbghekgghiamcaaFoS
namespace Go.Proofs.Ytbghekgghiamcaa
open Go.RowKit
set_option linter.unusedVariables false
theorem slabOk_lens {S T C K : List Int} (h : slabLens S T C K = false) : slabOk S T C K = false := by simp [slabOk, h]
theorem slabOk_bad {S T C K : List Int} {j : Nat} (hj : j < S.length) (h : slabAt S T C K j = false) : slabOk S T C K = false := by simp [slabOk, allTo_bad _ j _ hj h]
theorem slabOk_end {S T C K : List Int} (hl : slabLens S T C K = true) (h : allTo (slabAt S T C K) S.length = true) : slabOk S T C K = true := by simp [slabOk, hl, h]
theorem slabLens_iff {S T C K : List Int} : slabLens S T C K = true ↔ (S.length ≤ 3 ∧ T.length = S.length ∧ C.length = S.length ∧ K.length = S.length) := by simp [slabLens]
theorem and_no {a b : Bool} (h : b = false) : (a && b) = false := by rw [h]; simp
set_option maxHeartbeats 4000000 in
set_option maxRecDepth 100000 in
theorem l06Slab_any {B : Nat} {w : World} (k : Int) {v1 v2 v3 v4 : Value} {S T C K : List Int} (h1 : Ri B w v1 S) (h2 : Ri B w v2 T) (h3 : Ri B w v3 C) (h4 : Ri B w v4 K) (A5 : Option Addr) (n5 c5 : Nat) (hB : B ≤ w.heap.size) :
    Calls Try.prog 65 #[.agg #[.int .i64 k, v1, v2, v3, v4, .slice A5 n5 c5]] w (GivesB (.bool (decide (n5 = 0) && slabOk S T C K)) w) := by
  obtain ⟨A1, c1, rfl, hl1, hm1, hx1⟩ := h1
  obtain ⟨A2, c2, rfl, hl2, hm2, hx2⟩ := h2
  obtain ⟨A3, c3, rfl, hl3, hm3, hx3⟩ := h3
  obtain ⟨A4, c4, rfl, hl4, hm4, hx4⟩ := h4
  have Hx1 := Lib.hid hx1; have Hx2 := Lib.hid hx2; have Hx3 := Lib.hid hx3; have Hx4 := Lib.hid hx4; clear hx1 hx2 hx3 hx4
  unfold maxLen at hm1 hm2 hm3 hm4
  have Hb0 : Hid (Below w.heap.size w (w.alloc (.cells #[.int .i64 k, .slice A1 S.length c1, .slice A2 T.length c2, .slice A3 C.length c3, .slice A4 K.length c4, .slice A5 n5 c5] 25))) := Lib.hid ((Below.refl _ w).alloc (Nat.le_refl _) _)
  have HX0 := Lib.hid (SelBox.start w 25 k A1 A2 A3 A4 A5 S.length T.length C.length K.length n5 c1 c2 c3 c4 c5)
  generalize hr : (decide (n5 = 0) && slabOk S T C K) = r
  have Hr := Lib.hid hr; clear hr
  by_cases e1 : 3 < S.length
  · have Hf : Hid (r = false) := Lib.hid (by rw [← Hr.out]; exact and_no (slabOk_lens (by rw [Bool.eq_false_iff]; intro h; have := (slabLens_iff.1 h).1; omega)))
    have q1 : decide ((3 : Int) < (S.length : Int)) = true := decide_eq_true (by omega)
    go_enter Try.func65, Try.ntmps65
    go_wp2
    go_ret
    exact ⟨by rw [Hf.out]; rfl, (Below.refl _ w).alloc (Nat.le_refl _) _⟩
  have q0 : decide ((3 : Int) < (S.length : Int)) = false := decide_eq_false (by omega)
  by_cases e2 : T.length = S.length
  rotate_left
  · have Hf : Hid (r = false) := Lib.hid (by rw [← Hr.out]; exact and_no (slabOk_lens (by rw [Bool.eq_false_iff]; intro h; exact e2 (slabLens_iff.1 h).2.1)))
    have q1 : ((T.length : Int) == (S.length : Int)) = false := by simp; omega
    have q2 : ((T.length : Int) != (S.length : Int)) = true := by simp; omega
    have q3 : ¬ ((T.length : Int) = (S.length : Int)) := by omega
    go_enter Try.func65, Try.ntmps65
    go_wp2
    go_ret
    exact ⟨by rw [Hf.out]; rfl, (Below.refl _ w).alloc (Nat.le_refl _) _⟩
  by_cases e3 : C.length = S.length
  rotate_left
  · have Hf : Hid (r = false) := Lib.hid (by rw [← Hr.out]; exact and_no (slabOk_lens (by rw [Bool.eq_false_iff]; intro h; exact e3 (slabLens_iff.1 h).2.2.1)))
    have q1 : ((C.length : Int) == (S.length : Int)) = false := by simp; omega
    have q2 : ((C.length : Int) != (S.length : Int)) = true := by simp; omega
    have q3 : ¬ ((C.length : Int) = (S.length : Int)) := by omega
    have q4 : (T.length : Int) = (S.length : Int) := by omega
    go_enter Try.func65, Try.ntmps65
    go_wp2
    go_ret
    exact ⟨by rw [Hf.out]; rfl, (Below.refl _ w).alloc (Nat.le_refl _) _⟩
  by_cases e4 : K.length = S.length
  rotate_left
  · have Hf : Hid (r = false) := Lib.hid (by rw [← Hr.out]; exact and_no (slabOk_lens (by rw [Bool.eq_false_iff]; intro h; exact e4 (slabLens_iff.1 h).2.2.2)))
    have q1 : ((K.length : Int) == (S.length : Int)) = false := by simp; omega
    have q2 : ((K.length : Int) != (S.length : Int)) = true := by simp; omega
    have q3 : ¬ ((K.length : Int) = (S.length : Int)) := by omega
    have q4 : (T.length : Int) = (S.length : Int) := by omega
    have q5 : (C.length : Int) = (S.length : Int) := by omega
    go_enter Try.func65, Try.ntmps65
    go_wp2
    go_ret
    exact ⟨by rw [Hf.out]; rfl, (Below.refl _ w).alloc (Nat.le_refl _) _⟩
  have E2 := Lib.hid e2; have E3 := Lib.hid e3; have E4 := Lib.hid e4
  have q4 : (T.length : Int) = (S.length : Int) := by omega
  have q5 : (C.length : Int) = (S.length : Int) := by omega
  have q6 : (K.length : Int) = (S.length : Int) := by omega
  by_cases e5 : n5 = 0
  rotate_left
  · have Hf : Hid (r = false) := Lib.hid (by rw [← Hr.out]; simp [e5])
    have q1 : decide ((0 : Int) < (n5 : Int)) = true := decide_eq_true (by omega)
    clear e2 e3 e4
    go_enter Try.func65, Try.ntmps65
    go_wp2
    go_ret
    exact ⟨by rw [Hf.out]; rfl, (Below.refl _ w).alloc (Nat.le_refl _) _⟩
  subst e5
  have Hlen : Hid (slabLens S T C K = true) := Lib.hid (slabLens_iff.2 ⟨by omega, e2, e3, e4⟩)
  have Hr2 : Hid (r = slabOk S T C K) := Lib.hid (by rw [← Hr.out]; simp)
  clear Hr e2 e3 e4
  go_enter Try.func65, Try.ntmps65
  go_wp2
  clear q4 q5 q6 q0
  go_loopw [4] (fun i wr => ∃ j : Nat, j ≤ S.length ∧ i = .int .i64 j ∧ Below w.heap.size w wr ∧ SelBox w wr k A1 A2 A3 A4 A5 S.length T.length C.length K.length 0 c1 c2 c3 c4 c5 ∧ allTo (slabAt S T C K) j = true) (fun i _ => S.length - (intOf i).toNat)
  case atStart => exact ⟨0, Nat.zero_le _, rfl, Hb0.out, HX0.out, allTo_zero _⟩
  case round =>
    obtain ⟨j, hj, rfl, hbel, hbox, hall⟩ := hrel
    have Hall := Lib.hid hall; have Hbel := Lib.hid hbel; have Hbox := Lib.hid hbox
    clear hall hbox
    by_cases hlt : j < S.length
    · have hlt2 : j < T.length := by have := E2.out; omega
      have hlt3 : j < C.length := by have := E3.out; omega
      have hlt4 : j < K.length := by have := E4.out; omega
      obtain ⟨b1, o1, rfl, hb1, hq1, hI1⟩ := Hx1.out j hlt
      obtain ⟨b2, o2, rfl, hb2, hq2, hI2⟩ := Hx2.out j hlt2
      obtain ⟨b3, o3, rfl, hb3, hq3, hI3⟩ := Hx3.out j hlt3
      obtain ⟨b4, o4, rfl, hb4, hq4, hI4⟩ := Hx4.out j hlt4
      have g1 : wr.cell? ⟨b1, o1 + j, none⟩ = some (.int .i64 S[j]) := by rw [hbel.cell (p := ⟨b1, o1 + j, none⟩) (show b1 < _ from by omega)]; exact hq1
      have g2 : wr.cell? ⟨b2, o2 + j, none⟩ = some (.int .i64 T[j]) := by rw [hbel.cell (p := ⟨b2, o2 + j, none⟩) (show b2 < _ from by omega)]; exact hq2
      have g3 : wr.cell? ⟨b3, o3 + j, none⟩ = some (.int .i64 C[j]) := by rw [hbel.cell (p := ⟨b3, o3 + j, none⟩) (show b3 < _ from by omega)]; exact hq3
      have g4 : wr.cell? ⟨b4, o4 + j, none⟩ = some (.int .i64 K[j]) := by rw [hbel.cell (p := ⟨b4, o4 + j, none⟩) (show b4 < _ from by omega)]; exact hq4
      have Hp := Lib.hid (slabAt_at (S := S) (T := T) (C := C) (K := K) hlt hlt2 hlt3 hlt4)
      have Hk2 := Lib.hid (allTo_succ (slabAt S T C K) j)
      have Hbad : Hid (slabAt S T C K j = false → r = false) := Lib.hid (fun h => by rw [Hr2.out]; exact slabOk_bad hlt h)
      have hbs := hbel.size
      have z1 : b1 < wr.heap.size := by omega
      have z2 : b2 < wr.heap.size := by omega
      have z3 : b3 < wr.heap.size := by omega
      have z4 : b4 < wr.heap.size := by omega
      clear hq1 hq2 hq3 hq4 hI1 hI2 hI3 hI4 hbel
      generalize S[j] = s at *
      generalize T[j] = t at *
      generalize C[j] = c at *
      generalize K[j] = b at *
      obtain ⟨x0, x1, x2, x3, x4, x5, x6⟩ := Hbox.out
      by_cases a1 : inB s 0 40 = true
      rotate_left
      · have Ha1 : Hid (inB s 0 40 = false) := Lib.hid (by simpa using a1)
        have Hf : Hid (r = false) := Lib.hid (Hbad.out (by rw [Hp.out]; exact axOk_no (fun h => by have := Ha1.out; simp [inB] at this; omega)))
        clear a1 Hbad
        go_wp2
        go_quiet ((go_at_call 34; exact Quiet.qs (l00In_no _ _ _ _ Ha1.out)))
        go_wp2
        go_ret
        exact ⟨by rw [Hf.out]; rfl, below_draws Hbel.out _⟩
      have Ha1 := Lib.hid a1
      obtain ⟨p1, p2⟩ := inB_iff.1 a1
      clear a1
      by_cases a2 : inB c 1 40 = true
      rotate_left
      · have Ha2 : Hid (inB c 1 40 = false) := Lib.hid (by simpa using a2)
        have Hf : Hid (r = false) := Lib.hid (Hbad.out (by rw [Hp.out]; exact axOk_no (fun h => by have := Ha2.out; simp [inB] at this; omega)))
        clear a2 Hbad
        go_wp2
        go_quiet (first | (go_at_call 34; exact Quiet.qs (l00In_yes _ _ _ _ Ha1.out)) | (go_at_call 34; exact Quiet.qs (l00In_no _ _ _ _ Ha2.out)))
        go_wp2
        go_ret
        exact ⟨by rw [Hf.out]; rfl, below_draws Hbel.out _⟩
      have Ha2 := Lib.hid a2
      obtain ⟨p3, p4⟩ := inB_iff.1 a2
      clear a2
      by_cases a3 : inB b 1 40 = true
      rotate_left
      · have Ha3 : Hid (inB b 1 40 = false) := Lib.hid (by simpa using a3)
        have Hf : Hid (r = false) := Lib.hid (Hbad.out (by rw [Hp.out]; exact axOk_no (fun h => by have := Ha3.out; simp [inB] at this; omega)))
        clear a3 Hbad
        go_wp2
        go_quiet (first | (go_at_call 34; exact Quiet.qs (l00In_yes _ _ _ _ Ha1.out)) | (go_at_call 34; exact Quiet.qs (l00In_yes _ _ _ _ Ha2.out)) | (go_at_call 34; exact Quiet.qs (l00In_no _ _ _ _ Ha3.out)))
        go_wp2
        go_ret
        exact ⟨by rw [Hf.out]; rfl, below_draws Hbel.out _⟩
      have Ha3 := Lib.hid a3
      obtain ⟨p5, p5'⟩ := inB_iff.1 a3
      clear a3
      by_cases a4 : inB t b 40 = true
      rotate_left
      · have Ha4 : Hid (inB t b 40 = false) := Lib.hid (by simpa using a4)
        have Hf : Hid (r = false) := Lib.hid (Hbad.out (by rw [Hp.out]; exact axOk_no (fun h => by have := Ha4.out; simp [inB] at this; omega)))
        clear a4 Hbad
        go_wp2
        go_quiet (first | (go_at_call 34; exact Quiet.qs (l00In_yes _ _ _ _ Ha1.out)) | (go_at_call 34; exact Quiet.qs (l00In_yes _ _ _ _ Ha2.out)) | (go_at_call 34; exact Quiet.qs (l00In_yes _ _ _ _ Ha3.out)) | (go_at_call 34; exact Quiet.qs (l00In_no _ _ _ _ Ha4.out)))
        go_wp2
        go_ret
        exact ⟨by rw [Hf.out]; rfl, below_draws Hbel.out _⟩
      have Ha4 := Lib.hid a4
      obtain ⟨p6, p7⟩ := inB_iff.1 a4
      clear a4
      have h3' : S.length ≤ 3 := by omega
      have HE : Hid (Calls Try.prog 78 #[.agg #[.int .i64 k, .slice (some ⟨b1, o1, none⟩) S.length c1, .slice (some ⟨b2, o2, none⟩) T.length c2, .slice (some ⟨b3, o3, none⟩) C.length c3, .slice (some ⟨b4, o4, none⟩) K.length c4, .slice A5 0 c5], .int .i64 (j : Int)] wr.drew (GivesB (.int .i64 (axEnd s t c b)) wr.drew)) :=
        Lib.hid (l06End_any wr.drew k A5 b1 o1 b2 o2 b3 o3 b4 o4 _ _ _ _ 0 c1 c2 c3 c4 c5 j s t c b g1 g2 g3 g4 hlt hlt2 hlt3 hlt4 (by omega) p1 p2 p3 p4 p5 p6 p7)
      have HSS : Hid (∀ W, Below wr.heap.size wr W → W.cell? ⟨w.heap.size, 0, none⟩ = some (.int .i64 k) ∧ W.cell? ⟨w.heap.size, 1, none⟩ = some (.slice (some ⟨b1, o1, none⟩) S.length c1) ∧ W.cell? ⟨w.heap.size, 2, none⟩ = some (.slice (some ⟨b2, o2, none⟩) T.length c2) ∧ W.cell? ⟨w.heap.size, 3, none⟩ = some (.slice (some ⟨b3, o3, none⟩) C.length c3) ∧ W.cell? ⟨w.heap.size, 4, none⟩ = some (.slice (some ⟨b4, o4, none⟩) K.length c4) ∧ W.cell? ⟨w.heap.size, 5, none⟩ = some (.slice A5 0 c5) ∧ W.cell? ⟨b1, o1 + j, none⟩ = some (.int .i64 s) ∧ W.cell? ⟨b2, o2 + j, none⟩ = some (.int .i64 t) ∧ W.cell? ⟨b3, o3 + j, none⟩ = some (.int .i64 c) ∧ W.cell? ⟨b4, o4 + j, none⟩ = some (.int .i64 b)) := Lib.hid (fun W hW => by
        have e : ∀ (q jj : Nat), q < wr.heap.size → W.cell? ⟨q, jj, none⟩ = wr.cell? ⟨q, jj, none⟩ := fun q jj hq => hW.cell (p := ⟨q, jj, none⟩) hq
        exact ⟨by rw [e _ _ x6]; exact x0, by rw [e _ _ x6]; exact x1, by rw [e _ _ x6]; exact x2, by rw [e _ _ x6]; exact x3, by rw [e _ _ x6]; exact x4, by rw [e _ _ x6]; exact x5, by rw [e _ _ z1]; exact g1, by rw [e _ _ z2]; exact g2, by rw [e _ _ z3]; exact g3, by rw [e _ _ z4]; exact g4⟩)
      have Hend : Hid (axOk s t c b = decide (axEnd s t c b ≤ 40)) := Lib.hid (by
        rw [Bool.eq_iff_iff, axOk_iff, decide_eq_true_iff]; unfold axEnd
        exact ⟨fun h => h.2.2.2.2.2.2.2, fun h => ⟨p1, p2, p3, p4, p5, p6, p7, h⟩⟩)
      generalize axEnd s t c b = ae at *
      by_cases a5 : ae ≤ 40
      · have Hall2 : Hid (allTo (slabAt S T C K) (j + 1) = true) := Lib.hid (by rw [Hk2.out, Hall.out, Hp.out, Hend.out]; simpa using a5)
        have q7 : decide ((40 : Int) < ae) = false := decide_eq_false (by omega)
        clear Hbad
        go_wp2
        clear g1 g2 g3 g4 x0 x1 x2 x3 x4 x5
        go_region_held3 (fun W => W.cell? ⟨w.heap.size, 0, none⟩ = some (.int .i64 k) ∧ W.cell? ⟨w.heap.size, 1, none⟩ = some (.slice (some ⟨b1, o1, none⟩) S.length c1) ∧ W.cell? ⟨w.heap.size, 2, none⟩ = some (.slice (some ⟨b2, o2, none⟩) T.length c2) ∧ W.cell? ⟨w.heap.size, 3, none⟩ = some (.slice (some ⟨b3, o3, none⟩) C.length c3) ∧ W.cell? ⟨w.heap.size, 4, none⟩ = some (.slice (some ⟨b4, o4, none⟩) K.length c4) ∧ W.cell? ⟨w.heap.size, 5, none⟩ = some (.slice A5 0 c5) ∧ W.cell? ⟨b1, o1 + j, none⟩ = some (.int .i64 s) ∧ W.cell? ⟨b2, o2 + j, none⟩ = some (.int .i64 t) ∧ W.cell? ⟨b3, o3 + j, none⟩ = some (.int .i64 c) ∧ W.cell? ⟨b4, o4 + j, none⟩ = some (.int .i64 b)) (exact HSS.out _ (by first | exact kb | exact (Below.refl _ _).drew))
          ((first | (go_at_call 34; go_fit (l00In_yes _ _ _ _ Ha1.out); rintro e w' ⟨rfl, rfl⟩) | (go_at_call 34; go_fit (l00In_yes _ _ _ _ Ha2.out); rintro e w' ⟨rfl, rfl⟩) | (go_at_call 34; go_fit (l00In_yes _ _ _ _ Ha3.out); rintro e w' ⟨rfl, rfl⟩) | (go_at_call 34; go_fit (l00In_yes _ _ _ _ Ha4.out); rintro e w' ⟨rfl, rfl⟩) | (go_at_call 78; go_fit HE.out; rintro e u1 ⟨rfl, g⟩; have kb : Below wr.heap.size wr u1 := (Below.refl _ _).drew.trans g)))
        have Kb := Lib.hid kb
        clear kb
        try simp only [Exit.then]
        go_wp2
        go_roundw
        case rel => exact ⟨j + 1, by omega, by go_num, Hbel.out.trans (Kb.out.mono Hbel.out.size), Hbox.out.go Kb.out, Hall2.out⟩
        case measure => simp [intOf]; omega
      · have Hf : Hid (r = false) := Lib.hid (Hbad.out (by rw [Hp.out, Hend.out]; simpa using a5))
        have q7 : decide ((40 : Int) < ae) = true := decide_eq_true (by omega)
        clear Hbad
        go_wp2
        clear g1 g2 g3 g4 x0 x1 x2 x3 x4 x5
        go_region_held3 (fun W => W.cell? ⟨w.heap.size, 0, none⟩ = some (.int .i64 k) ∧ W.cell? ⟨w.heap.size, 1, none⟩ = some (.slice (some ⟨b1, o1, none⟩) S.length c1) ∧ W.cell? ⟨w.heap.size, 2, none⟩ = some (.slice (some ⟨b2, o2, none⟩) T.length c2) ∧ W.cell? ⟨w.heap.size, 3, none⟩ = some (.slice (some ⟨b3, o3, none⟩) C.length c3) ∧ W.cell? ⟨w.heap.size, 4, none⟩ = some (.slice (some ⟨b4, o4, none⟩) K.length c4) ∧ W.cell? ⟨w.heap.size, 5, none⟩ = some (.slice A5 0 c5) ∧ W.cell? ⟨b1, o1 + j, none⟩ = some (.int .i64 s) ∧ W.cell? ⟨b2, o2 + j, none⟩ = some (.int .i64 t) ∧ W.cell? ⟨b3, o3 + j, none⟩ = some (.int .i64 c) ∧ W.cell? ⟨b4, o4 + j, none⟩ = some (.int .i64 b)) (exact HSS.out _ (by first | exact kb | exact (Below.refl _ _).drew))
          ((first | (go_at_call 34; go_fit (l00In_yes _ _ _ _ Ha1.out); rintro e w' ⟨rfl, rfl⟩) | (go_at_call 34; go_fit (l00In_yes _ _ _ _ Ha2.out); rintro e w' ⟨rfl, rfl⟩) | (go_at_call 34; go_fit (l00In_yes _ _ _ _ Ha3.out); rintro e w' ⟨rfl, rfl⟩) | (go_at_call 34; go_fit (l00In_yes _ _ _ _ Ha4.out); rintro e w' ⟨rfl, rfl⟩) | (go_at_call 78; go_fit HE.out; rintro e u1 ⟨rfl, g⟩; have kb : Below wr.heap.size wr u1 := (Below.refl _ _).drew.trans g)))
        have Kb := Lib.hid kb
        clear kb
        try simp only [Exit.then]
        go_wp2
        go_ret
        exact ⟨by rw [Hf.out]; rfl, Hbel.out.trans (Kb.out.mono Hbel.out.size)⟩
    · have Hf : Hid (r = true) := Lib.hid (by rw [Hr2.out]; exact slabOk_end Hlen.out (by rw [show S.length = j by omega]; exact Hall.out))
      clear hbel
      go_wp2
      go_ret
      exact ⟨by rw [Hf.out]; rfl, Hbel.out⟩
end Go.Proofs.Ytbghekgghiamcaa
