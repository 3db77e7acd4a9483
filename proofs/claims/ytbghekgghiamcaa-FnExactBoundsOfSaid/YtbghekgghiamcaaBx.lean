/- Contracts of the laws' functions that bound, copy and compare boxes; of the functions that compare lists. No statement is proved here. -/
import Derived.Test.YtbghekgghiamcaaIdx
import Derived.Test.YtbghekgghiamcaaPre
import Derived.Deep.WholeRow
namespace Go.Proofs.Ytbghekgghiamcaa
open Go.RowKit
set_option linter.unusedVariables false
set_option maxHeartbeats 400000 in
theorem szBox_any {B : Nat} {w : World} {v1 v2 : Value} {xs ms : List Int} (h1 : Ri B w v1 xs) (h2 : Ri B w v2 ms) (hB : B ≤ w.heap.size) (L : Int) (hL0 : 0 ≤ L) (hL : L ≤ 1048576) :
    Calls Try.prog 49 #[.agg #[v1, v2], .int .i64 L] w (Left L (xs.length ≤ 1048576 ∧ ms.length ≤ 1048576) w) := by
  have H1 := Lib.hid h1; have H2 := Lib.hid h2
  obtain ⟨A1, c1, rfl, _⟩ := h1
  obtain ⟨A2, c2, rfl, _⟩ := h2
  generalize hP : (xs.length ≤ 1048576) = P1 at *
  generalize hQ : (ms.length ≤ 1048576) = P2 at *
  have HP := Lib.hid hP; have HQ := Lib.hid hQ; clear hP hQ
  have hb0 : Below w.heap.size w (w.alloc (.cells #[.slice A1 xs.length c1, .slice A2 ms.length c2] 70)) := (Below.refl _ w).alloc (Nat.le_refl _) _
  have Hb0 := Lib.hid hb0; clear hb0
  go_enter Try.func49, Try.ntmps49
  go_wp2_with fail
  refine (szI_any (H1.out.at hB Hb0.out) L hL0 hL).mono ?_
  rintro e w1 ⟨n1, rfl, hn1, hn1L, hp1, hbel1⟩
  have Hp1 : Hid (0 ≤ n1 → P1) := Lib.hid (fun h => HP.out ▸ hp1 h); clear hp1
  have hc1 := old_cell hbel1
  have hz1 := hbel1.size
  have hb1 : Below w.heap.size w w1 := Hb0.out.trans (hbel1.mono (by simp))
  have Hb1 := Lib.hid hb1
  simp at hz1
  clear hbel1 hb1
  by_cases hneg : n1 < 0
  · go_wp2_with fail
    go_ret
    exact ⟨-1, rfl, by omega, by omega, by omega, Hb1.out⟩
  go_wp2_with fail
  refine (szI_any (H2.out.at hB Hb1.out) n1 (by omega) (by omega)).mono ?_
  rintro e w2 ⟨n2, rfl, hn2, hn2L, hp2, hbel2⟩
  have Hp2 : Hid (0 ≤ n2 → P2) := Lib.hid (fun h => HQ.out ▸ hp2 h); clear hp2
  have Hb2 : Hid (Below w.heap.size w w2) := Lib.hid (Hb1.out.trans (hbel2.mono (by omega)))
  clear hbel2 hc1
  by_cases hneg2 : n2 < 0
  · go_wp2_with fail
    go_ret
    exact ⟨-1, rfl, by omega, by omega, by omega, Hb2.out⟩
  go_wp2_with fail
  go_ret
  exact ⟨n2, rfl, by omega, by omega, fun h => ⟨Hp1.out (by omega), Hp2.out (by omega)⟩, Hb2.out⟩
/-- A box copied into two new blocks. -/
def MadeBx (xs ms : List Int) (w : World) (e : Ending) (w' : World) : Prop := e = .returned (.agg #[.slice (some ⟨w.heap.size + 3, 0, none⟩) xs.length xs.length, .slice (some ⟨w.heap.size + 4, 0, none⟩) ms.length ms.length]) ∧
  Row w' (w.heap.size + 3) xs ∧ Row w' (w.heap.size + 4) ms ∧ w'.heap.size = w.heap.size + 5 ∧ Below w.heap.size w w'
set_option maxHeartbeats 1000000 in
set_option maxRecDepth 100000 in
theorem toBox_any {B : Nat} {w : World} {v1 v2 : Value} {xs ms : List Int} (h1 : Ri B w v1 xs) (h2 : Ri B w v2 ms) (hB : B ≤ w.heap.size) (hs : xs.length ≤ 1048576 ∧ ms.length ≤ 1048576) :
    Calls Try.prog 54 #[.agg #[v1, v2]] w (MadeBx xs ms w) := by
  have H1 := Lib.hid h1; have H2 := Lib.hid h2; have Hs := Lib.hid hs
  obtain ⟨A1, c1, rfl, _⟩ := h1
  obtain ⟨A2, c2, rfl, _⟩ := h2
  clear hs
  have tri0 := Tri.start w 70 43 #[.slice A1 xs.length c1, .slice A2 ms.length c2] #[.slice none 0 0, .slice none 0 0] #[.slice none 0 0, .slice none 0 0]
  have Tri0 := Lib.hid tri0; clear tri0
  have Hz0 : Hid ((((w.alloc (.cells #[.slice A1 xs.length c1, .slice A2 ms.length c2] 70)).alloc (.cells #[.slice none 0 0, .slice none 0 0] 43)).alloc (.cells #[.slice none 0 0, .slice none 0 0] 43)).heap.size = w.heap.size + 3) := Lib.hid (by simp)
  go_enter Try.func54, Try.ntmps54
  go_wp2_with fail
  generalize (((w.alloc (.cells #[.slice A1 xs.length c1, .slice A2 ms.length c2] 70)).alloc (.cells #[.slice none 0 0, .slice none 0 0] 43)).alloc (.cells #[.slice none 0 0, .slice none 0 0] 43)) = w0 at *
  refine (toI_any (H1.out.at hB Tri0.out.2.2.2.1) (Nat.le_refl _) Hs.out.1).mono ?_
  rintro e w1 ⟨rfl, r1, z1, g1⟩
  have tri := Tri0.out.after g1
  have R1 : Hid (Row w1 (w.heap.size + 3) xs) := Lib.hid (Hz0.out ▸ r1)
  have Z1 : Hid (w1.heap.size = w.heap.size + 4) := Lib.hid (by rw [z1, Hz0.out])
  have q1 := tri.box 1 _ rfl
  have q2 := tri.out 0 _ rfl
  have q3 := tri.free 0
  have Hset : Hid (Tri w (w1.setCell ⟨w.heap.size + 1 + 1, 0, none⟩ (.slice (some ⟨w0.heap.size, 0, none⟩) xs.length xs.length)) 70 43 #[.slice A1 xs.length c1, .slice A2 ms.length c2] #[.slice none 0 0, .slice none 0 0] #[.slice (some ⟨w0.heap.size, 0, none⟩) xs.length xs.length, .slice none 0 0]) := Lib.hid (tri.set 0 _)
  have R1s : Hid (Row (w1.setCell ⟨w.heap.size + 1 + 1, 0, none⟩ (.slice (some ⟨w0.heap.size, 0, none⟩) xs.length xs.length)) (w.heap.size + 3) xs) := Lib.hid (R1.out.setCell (by omega) _ _)
  have Z1s : Hid ((w1.setCell ⟨w.heap.size + 1 + 1, 0, none⟩ (.slice (some ⟨w0.heap.size, 0, none⟩) xs.length xs.length)).heap.size = w.heap.size + 4) := Lib.hid (by simp [World.setCell, Z1.out])
  clear r1 z1 g1 tri
  go_wp2_with fail
  clear q1 q2 q3
  generalize (w1.setCell ⟨w.heap.size + 1 + 1, 0, none⟩ (.slice (some ⟨w0.heap.size, 0, none⟩) xs.length xs.length)) = W1 at *
  refine (toI_any (H2.out.at hB Hset.out.2.2.2.1) (Nat.le_refl _) Hs.out.2).mono ?_
  rintro e w2 ⟨rfl, r2, z2, g2⟩
  have tri := Hset.out.after g2
  have R2 : Hid (Row w2 (w.heap.size + 4) ms) := Lib.hid (Z1s.out ▸ r2)
  have R1b : Hid (Row w2 (w.heap.size + 3) xs) := Lib.hid (R1s.out.below g2)
  have Z2 : Hid (w2.heap.size = w.heap.size + 5) := Lib.hid (by rw [z2, Z1s.out])
  have q2 := tri.out 1 _ rfl
  have q3 := tri.free 1
  have Hset2 : Hid (Tri w (w2.setCell ⟨w.heap.size + 1 + 1, 1, none⟩ (.slice (some ⟨W1.heap.size, 0, none⟩) ms.length ms.length)) 70 43 #[.slice A1 xs.length c1, .slice A2 ms.length c2] #[.slice none 0 0, .slice none 0 0] #[.slice (some ⟨w0.heap.size, 0, none⟩) xs.length xs.length, .slice (some ⟨W1.heap.size, 0, none⟩) ms.length ms.length]) := Lib.hid (tri.set 1 _)
  have Hi9 : Hid ((Try.prog.info? 43).map (·.size) = some (#[.slice (some ⟨w0.heap.size, 0, none⟩) xs.length xs.length, .slice (some ⟨W1.heap.size, 0, none⟩) ms.length ms.length] : Array Value).size) := Lib.hid (by kernel_rfl)
  have H19 : Hid ((#[.slice (some ⟨w0.heap.size, 0, none⟩) xs.length xs.length, .slice (some ⟨W1.heap.size, 0, none⟩) ms.length ms.length] : Array Value).all (·.oneCell') = true) := Lib.hid (by simp [Value.oneCell'])
  clear r2 z2 g2 tri
  go_wp2_with (first | (refine wpList_load_row rfl 43 (.tmp 3) rfl _ rfl 43 _ (0, 0) _ Hset2.out.2.2.1 Try.underlying43 rfl (by kernel_rfl) ?_) | (refine wpList_store_row rfl 43 (.tmp 2) (.tmp 12) rfl (w.heap.size + 1) #[.slice (some ⟨w0.heap.size, 0, none⟩) xs.length xs.length, .slice (some ⟨W1.heap.size, 0, none⟩) ms.length ms.length] rfl rfl 43 #[.slice none 0 0, .slice none 0 0] Hset2.out.2.1 Hi9.out rfl H19.out ?_))
  refine bodyPost_ret (v := .agg #[.slice (some ⟨w0.heap.size, 0, none⟩) xs.length xs.length, .slice (some ⟨W1.heap.size, 0, none⟩) ms.length ms.length]) ?h1 ?h2 ?h3
  case h2 => rfl
  case h1 => exact results_cell_row rfl _ _ (w.heap.size + 1) 43 _ (0, 0) _ rfl (setRow_heap _ _ _ _ _ _ Hset2.out.2.1) Try.underlying43 rfl (by kernel_rfl)
  case h3 =>
    clear q2 q3
    have hw := below_setRow Hset2.out.2.2.2.1 (show w.heap.size ≤ w.heap.size + 1 from by omega) #[.slice (some ⟨w0.heap.size, 0, none⟩) xs.length xs.length, .slice (some ⟨W1.heap.size, 0, none⟩) ms.length ms.length]
    refine ⟨by rw [Hz0.out, Z1s.out], (R1b.out.setCell (by omega) _ _).setRow (by omega) _, (R2.out.setCell (by omega) _ _).setRow (by omega) _, ?_, hw⟩
    simp [World.setCell, Z2.out]
theorem toBox_rd {B : Nat} {w : World} {v1 v2 : Value} {xs ms : List Int} (h1 : Ri B w v1 xs) (h2 : Ri B w v2 ms) (hB : B ≤ w.heap.size) (hs : xs.length ≤ 1048576 ∧ ms.length ≤ 1048576) :
    Calls Try.prog 54 #[.agg #[v1, v2]] w fun e w' => ∃ A1 A2 : Option Addr, e = .returned (.agg #[.slice A1 xs.length xs.length, .slice A2 ms.length ms.length]) ∧ Ri w'.heap.size w' (.slice A1 xs.length xs.length) xs ∧ Ri w'.heap.size w' (.slice A2 ms.length ms.length) ms ∧ Below w.heap.size w w' :=
  (toBox_any h1 h2 hB hs).mono fun e w' ⟨he, r1, r2, _, g⟩ => ⟨_, _, he, r1.ri r1.lt h1.inI (by unfold maxLen; omega), r2.ri r2.lt h2.inI (by unfold maxLen; omega), g⟩
set_option maxHeartbeats 400000 in
theorem eqBox_any {B : Nat} {w : World} {v1 v2 u1 u2 : Value} {xs ms : List Int} (h1 : Ri B w v1 xs) (h2 : Ri B w v2 ms) (g1 : Ri B w u1 xs) (g2 : Ri B w u2 ms) (hB : B ≤ w.heap.size) :
    Calls Try.prog 24 #[.agg #[v1, v2], .agg #[u1, u2]] w (GivesB (.bool true) w) := by
  have H1 := Lib.hid h1; have H2 := Lib.hid h2; have G1 := Lib.hid g1; have G2 := Lib.hid g2
  obtain ⟨A1, c1, rfl, _⟩ := h1
  obtain ⟨A2, c2, rfl, _⟩ := h2
  obtain ⟨A3, c3, rfl, _⟩ := g1
  obtain ⟨A4, c4, rfl, _⟩ := g2
  have hb0 : Below w.heap.size w ((w.alloc (.cells #[.slice A1 xs.length c1, .slice A2 ms.length c2] 43)).alloc (.cells #[.slice A3 xs.length c3, .slice A4 ms.length c4] 43)) :=
    ((Below.refl _ w).alloc (Nat.le_refl _) _).alloc (by simp) _
  have Hb0 := Lib.hid hb0; clear hb0
  go_enter Try.func24, Try.ntmps24
  go_wp2_with fail
  refine (eqI_any (H1.out.at hB Hb0.out) (G1.out.at hB Hb0.out) (Nat.le_refl _)).mono ?_
  rintro e w1 ⟨rfl, hbel1⟩
  have hc1 := old_cell hbel1
  have hz1 := hbel1.size
  simp at hz1
  have hq1 : w.heap.size < w1.heap.size := by omega
  have hr1 : w.heap.size + 1 < w1.heap.size := by omega
  have Hb1 : Hid (Below w.heap.size w w1) := Lib.hid (Hb0.out.trans (hbel1.mono (by simp; omega)))
  clear hbel1
  go_wp2_with fail
  refine (eqI_any (H2.out.at hB Hb1.out) (G2.out.at hB Hb1.out) (Nat.le_refl _)).mono ?_
  rintro e w2 ⟨rfl, hbel2⟩
  have Hb2 : Hid (Below w.heap.size w w2) := Lib.hid (Hb1.out.trans (hbel2.mono (by omega)))
  clear hbel2 hc1
  go_wp2_with fail
  go_ret
  exact ⟨rfl, Hb2.out⟩
end Go.Proofs.Ytbghekgghiamcaa
