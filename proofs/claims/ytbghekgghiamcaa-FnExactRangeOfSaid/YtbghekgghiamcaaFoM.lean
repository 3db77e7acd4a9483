/- Contract of the model's check of a selection's form. No statement is proved here. -/
import Derived.Test.YtbghekgghiamcaaFoSl
import Derived.Test.YtbghekgghiamcaaFoP
namespace Go.Proofs.Ytbghekgghiamcaa
open Go.RowKit
set_option linter.unusedVariables false
theorem l06Plain_r {r1 : Bool} {S T C K : List Int} (hr : plainB S T C K = r1) (w : World) (k : Int) (A1 A2 A3 A4 A5 : Option Addr) (n5 c1 c2 c3 c4 c5 : Nat) :
    Calls Try.prog 64 #[.agg #[.int .i64 k, .slice A1 S.length c1, .slice A2 T.length c2, .slice A3 C.length c3, .slice A4 K.length c4, .slice A5 n5 c5]] w (GivesB (.bool r1) w) := by
  subst hr
  exact l06Plain_any w k A1 A2 A3 A4 A5 _ _ _ _ _ _ _ _ _ _
set_option maxHeartbeats 4000000 in
set_option maxRecDepth 100000 in
theorem l06Formed_any {B : Nat} {w : World} {k : Int} {v1 v2 v3 v4 v5 : Value} {S T C K : List Int} {ps : List (List Int)} (h1 : Ri B w v1 S) (h2 : Ri B w v2 T) (h3 : Ri B w v3 C) (h4 : Ri B w v4 K) (h5 : RiP B w v5 ps) (hB : B ≤ w.heap.size) :
    Calls Try.prog 36 #[.agg #[.int .i64 k, v1, v2, v3, v4, v5]] w (GivesB (.bool (formedB k S T C K ps)) w) := by
  have H1 := Lib.hid h1; have H2 := Lib.hid h2; have H3 := Lib.hid h3; have H4 := Lib.hid h4; have H5 := Lib.hid h5
  obtain ⟨A1, c1, rfl, -, -, -⟩ := h1
  obtain ⟨A2, c2, rfl, -, -, -⟩ := h2
  obtain ⟨A3, c3, rfl, -, -, -⟩ := h3
  obtain ⟨A4, c4, rfl, -, -, -⟩ := h4
  obtain ⟨A5, c5, rfl, -, -, -⟩ := h5
  have Hb0 : Hid (Below w.heap.size w (w.alloc (.cells #[.int .i64 k, .slice A1 S.length c1, .slice A2 T.length c2, .slice A3 C.length c3, .slice A4 K.length c4, .slice A5 ps.length c5] 25))) := Lib.hid ((Below.refl _ w).alloc (Nat.le_refl _) _)
  have HX0 := Lib.hid (SelBox.start w 25 k A1 A2 A3 A4 A5 S.length T.length C.length K.length ps.length c1 c2 c3 c4 c5)
  generalize hr : formedB k S T C K ps = r
  unfold formedB at hr
  by_cases h12 : k = 1 ∨ k = 2
  · rw [if_pos h12] at hr
    generalize hr1 : plainB S T C K = r1 at hr
    have Hr := Lib.hid hr; have Hr1 := Lib.hid hr1
    clear hr hr1
    generalize hn : ps.length = n at *
    have Hn := Lib.hid hn; clear hn
    have hnn : n = 0 ∨ n ≠ 0 := by omega
    rcases h12 with rfl | rfl
    all_goals
      go_enter Try.func36, Try.ntmps36
      go_wp2_with fail
      refine (l06Plain_r Hr1.out _ _ _ _ _ _ _ _ _ _ _ _ _).mono ?_
      rintro e w1 ⟨rfl, g⟩
      have Hb1 : Hid (Below w.heap.size w w1) := Lib.hid (Hb0.out.trans (g.mono Hb0.out.size))
      obtain ⟨x0, x1, x2, x3, x4, x5, x6⟩ := HX0.out.go g
      clear g
      cases r1
      · have Hf : Hid (r = false) := Lib.hid (by rw [← Hr.out]; rfl)
        go_wp2_with fail
        go_ret
        exact ⟨by rw [Hf.out]; rfl, Hb1.out⟩
      · rcases hnn with rfl | hn0
        · have Hf : Hid (r = true) := Lib.hid (by rw [← Hr.out]; rfl)
          go_wp2_with fail
          go_ret
          exact ⟨by rw [Hf.out]; rfl, Hb1.out⟩
        · have Hf : Hid (r = false) := Lib.hid (by rw [← Hr.out]; simpa using hn0)
          have q1 : ((n : Int) == 0) = false := by simp; omega
          go_wp2_with fail
          go_ret
          exact ⟨by rw [Hf.out]; rfl, Hb1.out⟩
  rw [if_neg h12] at hr
  have k1 : (k == 1) = false := by simp; omega
  have k2 : (k == 2) = false := by simp; omega
  by_cases e3 : k = 3
  · subst e3
    rw [if_pos rfl] at hr
    have Hr := Lib.hid hr; clear hr h12 k1 k2
    go_enter Try.func36, Try.ntmps36
    go_wp2_with fail
    refine (Hr.out ▸ l06Slab_any 3 (H1.out.at hB Hb0.out) (H2.out.at hB Hb0.out) (H3.out.at hB Hb0.out) (H4.out.at hB Hb0.out) A5 ps.length c5 (Nat.le_refl _)).mono ?_
    rintro e w1 ⟨rfl, g⟩
    have Hb1 : Hid (Below w.heap.size w w1) := Lib.hid (Hb0.out.trans (g.mono Hb0.out.size))
    clear g
    go_wp2_with fail
    go_ret
    exact ⟨rfl, Hb1.out⟩
  rw [if_neg e3] at hr
  have k3 : (k == 3) = false := by simp; omega
  by_cases e4 : k = 4
  · subst e4
    rw [if_pos rfl] at hr
    generalize hr1 : plainB S T C K = r1 at hr
    generalize hr2 : ptsOk ps = r2 at hr
    have Hr := Lib.hid hr; have Hr1 := Lib.hid hr1; have Hr2 := Lib.hid hr2; clear hr hr1 hr2 h12 k1 k2 k3 e3
    go_enter Try.func36, Try.ntmps36
    go_wp2_with fail
    refine (l06Plain_r Hr1.out _ _ _ _ _ _ _ _ _ _ _ _ _).mono ?_
    rintro e w1 ⟨rfl, g⟩
    have Hb1 : Hid (Below w.heap.size w w1) := Lib.hid (Hb0.out.trans (g.mono Hb0.out.size))
    obtain ⟨x0, x1, x2, x3, x4, x5, x6⟩ := HX0.out.go g
    clear g
    cases r1
    · have Hf : Hid (r = false) := Lib.hid (by rw [← Hr.out]; rfl)
      go_wp2_with fail
      go_ret
      exact ⟨by rw [Hf.out]; rfl, Hb1.out⟩
    · have Hf : Hid (r = r2) := Lib.hid (by rw [← Hr.out]; simp)
      go_wp2_with fail
      refine (Hr2.out ▸ l06Points_any (H5.out.at hB Hb1.out) (Nat.le_refl _)).mono ?_
      rintro e w2 ⟨rfl, g⟩
      have Hb2 : Hid (Below w.heap.size w w2) := Lib.hid (Hb1.out.trans (g.mono Hb1.out.size))
      clear g x0 x1 x2 x3 x4 x5
      go_wp2_with fail
      go_ret
      exact ⟨by rw [Hf.out]; rfl, Hb2.out⟩
  rw [if_neg e4] at hr
  have k4 : (k == 4) = false := by simp; omega
  have Hr := Lib.hid hr; clear hr h12 e3 e4
  go_enter Try.func36, Try.ntmps36
  go_wp2_with fail
  go_ret
  exact ⟨by rw [← Hr.out]; rfl, Hb0.out⟩
end Go.Proofs.Ytbghekgghiamcaa
