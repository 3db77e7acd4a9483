/- Contract of the program's check of a selection's form. No statement is proved here. -/
import Derived.Test.YtbghekgghiamcaaPick
namespace Go.Proofs.Ytbghekgghiamcaa
open Go.RowKit
set_option linter.unusedVariables false
set_option maxHeartbeats 1000000 in
set_option maxRecDepth 100000 in
theorem implFormed_any {B : Nat} {w : World} {k : Int} {v1 v2 v3 v4 v5 : Value} {S T C K : List Int} {ps : List (List Int)} (h1 : Ri B w v1 S) (h2 : Ri B w v2 T) (h3 : Ri B w v3 C) (h4 : Ri B w v4 K) (h5 : RiP B w v5 ps) (hB : B ≤ w.heap.size)
    (hs : S.length ≤ 1048576 ∧ T.length ≤ 1048576 ∧ C.length ≤ 1048576 ∧ K.length ≤ 1048576) :
    Calls Try.prog 38 #[.agg #[.int .i64 k, v1, v2, v3, v4, v5]] w (GivesB (.bool (formedB k S T C K ps)) w) := by
  have H1 := Lib.hid h1; have H2 := Lib.hid h2; have H3 := Lib.hid h3; have H4 := Lib.hid h4; have H5 := Lib.hid h5; have Hs := Lib.hid hs
  obtain ⟨A1, c1, rfl, -, -, -⟩ := h1
  obtain ⟨A2, c2, rfl, -, -, -⟩ := h2
  obtain ⟨A3, c3, rfl, -, -, -⟩ := h3
  obtain ⟨A4, c4, rfl, -, -, -⟩ := h4
  obtain ⟨A5, c5, rfl, -, -, -⟩ := h5
  clear hs
  have Hb0 : Hid (Below w.heap.size w (w.alloc (.cells #[.int .i64 k, .slice A1 S.length c1, .slice A2 T.length c2, .slice A3 C.length c3, .slice A4 K.length c4, .slice A5 ps.length c5] 25))) := Lib.hid ((Below.refl _ w).alloc (Nat.le_refl _) _)
  have HP := Lib.hid (pickerOf_any k (H1.out.at hB Hb0.out) (H2.out.at hB Hb0.out) (H3.out.at hB Hb0.out) (H4.out.at hB Hb0.out) (H5.out.at hB Hb0.out) (Nat.le_refl _) Hs.out.1 Hs.out.2.1 Hs.out.2.2.1 Hs.out.2.2.2)
  generalize formedB k S T C K ps = r at *
  go_enter Try.func38, Try.ntmps38
  go_wp2_with fail
  refine HP.out.mono ?_
  rintro e w1 ⟨g, p, rfl, hp⟩
  have Hb1 : Hid (Below w.heap.size w w1) := Lib.hid (Hb0.out.trans (g.mono Hb0.out.size))
  clear g hp
  go_wp2_with fail
  go_ret
  exact ⟨rfl, Hb1.out⟩
end Go.Proofs.Ytbghekgghiamcaa
