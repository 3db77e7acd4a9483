/- Contracts of the laws' functions that bound, copy and compare boxes; of the functions that compare lists. No statement is proved here. -/
import Derived.Test.YtmghbgnalkkppaaIdx
import Derived.Test.YtmghbgnalkkppaaPre
import Derived.Deep.WholeRow
namespace Go.Proofs.Ytmghbgnalkkppaa
open Go.RowKit
set_option linter.unusedVariables false
/-- A box copied into two new blocks. -/
def MadeBx (xs ms : List Int) (w : World) (e : Ending) (w' : World) : Prop := e = .returned (.agg #[.slice (some ⟨w.heap.size + 3, 0, none⟩) xs.length xs.length, .slice (some ⟨w.heap.size + 4, 0, none⟩) ms.length ms.length]) ∧
  Row w' (w.heap.size + 3) xs ∧ Row w' (w.heap.size + 4) ms ∧ w'.heap.size = w.heap.size + 5 ∧ Below w.heap.size w w'
set_option maxHeartbeats 400000 in
theorem eqBox_any {B : Nat} {w : World} {v1 v2 u1 u2 : Value} {xs ms : List Int} (h1 : Ri B w v1 xs) (h2 : Ri B w v2 ms) (g1 : Ri B w u1 xs) (g2 : Ri B w u2 ms) (hB : B ≤ w.heap.size) :
    Calls Try.prog 27 #[.agg #[v1, v2], .agg #[u1, u2]] w (GivesB (.bool true) w) := by
  have H1 := Lib.hid h1; have H2 := Lib.hid h2; have G1 := Lib.hid g1; have G2 := Lib.hid g2
  obtain ⟨A1, c1, rfl, _⟩ := h1
  obtain ⟨A2, c2, rfl, _⟩ := h2
  obtain ⟨A3, c3, rfl, _⟩ := g1
  obtain ⟨A4, c4, rfl, _⟩ := g2
  have hb0 : Below w.heap.size w ((w.alloc (.cells #[.slice A1 xs.length c1, .slice A2 ms.length c2] 32)).alloc (.cells #[.slice A3 xs.length c3, .slice A4 ms.length c4] 32)) :=
    ((Below.refl _ w).alloc (Nat.le_refl _) _).alloc (by simp) _
  have Hb0 := Lib.hid hb0; clear hb0
  go_enter Try.func27, Try.ntmps27
  go_wp2_with fail
  refine (eqI_any (H1.out.at hB Hb0.out) (G1.out.at hB Hb0.out) (Nat.le_refl _)).mono ?_
  rintro e w1 ⟨rfl, hbel1⟩
  have hc1 := old_cell hbel1
  have hz1 := hbel1.size
  simp at hz1
  have hq1 : w.heap.size < w1.heap.size := by omega
  have hr1 : w.heap.size + 1 < w1.heap.size := by omega
  have Hb1 : Hid (Below w.heap.size w w1) := Lib.hid (Hb0.out.trans (hbel1.mono (by simp; omega)))
  clear hbel1
  go_wp2_with fail
  refine (eqI_any (H2.out.at hB Hb1.out) (G2.out.at hB Hb1.out) (Nat.le_refl _)).mono ?_
  rintro e w2 ⟨rfl, hbel2⟩
  have Hb2 : Hid (Below w.heap.size w w2) := Lib.hid (Hb1.out.trans (hbel2.mono (by omega)))
  clear hbel2 hc1
  go_wp2_with fail
  go_ret
  exact ⟨rfl, Hb2.out⟩
end Go.Proofs.Ytmghbgnalkkppaa
