/- Contract of the program's reading of a selection. No statement is proved here. -/
import Derived.Test.YtbghekgghiamcaaSlo
import Derived.Test.YtbghekgghiamcaaFoM
import Derived.Test.YtbghekgghiamcaaFoI
namespace Go.Proofs.Ytbghekgghiamcaa
open Go.RowKit
set_option linter.unusedVariables false
/-- What stands behind the interface that pickerOf answers, where the form is right. -/
def PickOk (w' : World) (lo : Nat) (k : Int) (S T C K : List Int) (v5 p : Value) : Prop :=
  (k = 1 → p = .iface 102 (.agg #[])) ∧ (k = 2 → p = .iface 103 (.agg #[])) ∧
  (k = 3 → ∃ b, b < w'.heap.size ∧ lo ≤ b ∧ p = .iface 105 (.slice (some ⟨b, 0, none⟩) S.length S.length) ∧ SlabAt w' b S T C K S.length) ∧ (k = 4 → p = .iface 108 v5)
def PickRes (r : Bool) (k : Int) (S T C K : List Int) (v5 : Value) (w : World) (e : Ending) (w' : World) : Prop := Below w.heap.size w w' ∧ ∃ p, e = .returned (.tuple #[p, .bool r]) ∧ (r = true → PickOk w' w.heap.size k S T C K v5 p)
theorem PickRes.no {k : Int} {S T C K : List Int} {v5 : Value} {w w' : World} (p : Value) (hb : Below w.heap.size w w') : PickRes false k S T C K v5 w (.returned (.tuple #[p, .bool false])) w' := ⟨hb, p, rfl, fun h => by cases h⟩
theorem PickRes.yes {k : Int} {S T C K : List Int} {v5 : Value} {w w' : World} {p : Value} (hb : Below w.heap.size w w') (hp : PickOk w' w.heap.size k S T C K v5 p) : PickRes true k S T C K v5 w (.returned (.tuple #[p, .bool true])) w' := ⟨hb, p, rfl, fun _ => hp⟩
set_option maxHeartbeats 4000000 in
set_option maxRecDepth 100000 in
theorem pick1 (w : World) (k : Int) (hk : k = 1 ∨ k = 2) (S T C K : List Int) (A1 A2 A3 A4 A5 : Option Addr) (n1 n2 n3 n4 n5 c1 c2 c3 c4 c5 : Nat) (m1 : n1 ≤ 1099511627776) (m2 : n2 ≤ 1099511627776) (m3 : n3 ≤ 1099511627776) (m4 : n4 ≤ 1099511627776) :
    Calls Try.prog 67 #[.agg #[.int .i64 k, .slice A1 n1 c1, .slice A2 n2 c2, .slice A3 n3 c3, .slice A4 n4 c4, .slice A5 n5 c5]] w (PickRes ((decide (n1 = 0) && (decide (n2 = 0) && (decide (n3 = 0) && decide (n4 = 0)))) && decide (n5 = 0)) k S T C K (.slice A5 n5 c5) w) := by
  have Hb0 : Hid (Below w.heap.size w (w.alloc (.cells #[.int .i64 k, .slice A1 n1 c1, .slice A2 n2 c2, .slice A3 n3 c3, .slice A4 n4 c4, .slice A5 n5 c5] 25))) := Lib.hid ((Below.refl _ w).alloc (Nat.le_refl _) _)
  generalize hr : ((decide (n1 = 0) && (decide (n2 = 0) && (decide (n3 = 0) && decide (n4 = 0)))) && decide (n5 = 0)) = r
  by_cases hz : n1 + n2 + n3 + n4 = 0
  · obtain ⟨rfl, rfl, rfl, rfl⟩ : n1 = 0 ∧ n2 = 0 ∧ n3 = 0 ∧ n4 = 0 := by omega
    by_cases h5 : n5 = 0
    · subst h5
      obtain rfl : true = r := by rw [← hr]; rfl
      rcases hk with rfl | rfl
      · go_enter Try.func67, Try.ntmps67
        go_wp2
        go_ret2
        exact PickRes.yes Hb0.out ⟨fun _ => rfl, fun h => by omega, fun h => by omega, fun h => by omega⟩
      · go_enter Try.func67, Try.ntmps67
        go_wp2
        go_ret2
        exact PickRes.yes Hb0.out ⟨fun h => by omega, fun _ => rfl, fun h => by omega, fun h => by omega⟩
    · obtain rfl : false = r := by rw [← hr]; simp [h5]
      have q1 : decide (0 < n5) = true := decide_eq_true (by omega)
      clear hr
      rcases hk with rfl | rfl
      all_goals
        go_enter Try.func67, Try.ntmps67
        go_wp2
        go_ret2
        exact PickRes.no _ Hb0.out
  · obtain rfl : false = r := by
      rw [← hr, Bool.eq_iff_iff]
      simp
      omega
    have q0 : IntKind.i64.wrap ((n1 : Int) + (n2 : Int)) = (n1 : Int) + (n2 : Int) := IntWalk.i64_in _ (by omega)
    have q2 : IntKind.i64.wrap ((n1 : Int) + (n2 : Int) + (n3 : Int)) = (n1 : Int) + (n2 : Int) + (n3 : Int) := IntWalk.i64_in _ (by omega)
    have q3 : IntKind.i64.wrap ((n1 : Int) + (n2 : Int) + (n3 : Int) + (n4 : Int)) = (n1 : Int) + (n2 : Int) + (n3 : Int) + (n4 : Int) := IntWalk.i64_in _ (by omega)
    have q1 : decide ((0 : Int) < (n1 : Int) + (n2 : Int) + (n3 : Int) + (n4 : Int)) = true := decide_eq_true (by omega)
    clear hr hz
    rcases hk with rfl | rfl
    all_goals
      go_enter Try.func67, Try.ntmps67
      go_wp2
      go_ret2
      exact PickRes.no _ Hb0.out
theorem plain_sum (a b c d : Nat) : (decide (a = 0) && (decide (b = 0) && (decide (c = 0) && decide (d = 0)))) = decide (a + b + c + d = 0) := by
  rw [Bool.eq_iff_iff]
  simp
  omega
/-- Sums of lengths. -/
theorem add4 (a b c d : Nat) (h1 : a ≤ 1099511627776) (h2 : b ≤ 1099511627776) (h3 : c ≤ 1099511627776) (h4 : d ≤ 1099511627776) :
    IntKind.i64.wrap ((a : Int) + (b : Int)) = (a : Int) + (b : Int) ∧ IntKind.i64.wrap ((a : Int) + (b : Int) + (c : Int)) = (a : Int) + (b : Int) + (c : Int) ∧ IntKind.i64.wrap ((a : Int) + (b : Int) + (c : Int) + (d : Int)) = (a : Int) + (b : Int) + (c : Int) + (d : Int) :=
  ⟨IntWalk.i64_in _ (by omega), IntWalk.i64_in _ (by omega), IntWalk.i64_in _ (by omega)⟩
set_option maxHeartbeats 4000000 in
set_option maxRecDepth 100000 in
theorem pick3 {B : Nat} {w : World} {v1 v2 v3 v4 : Value} {S T C K : List Int} (h1 : Ri B w v1 S) (h2 : Ri B w v2 T) (h3 : Ri B w v3 C) (h4 : Ri B w v4 K) (A5 : Option Addr) (n5 c5 : Nat) (hB : B ≤ w.heap.size) (m1 : S.length ≤ 1099511627776) (m2 : T.length ≤ 1099511627776) (m3 : C.length ≤ 1099511627776) (m4 : K.length ≤ 1099511627776) :
    Calls Try.prog 67 #[.agg #[.int .i64 3, v1, v2, v3, v4, .slice A5 n5 c5]] w (PickRes (decide (n5 = 0) && slabOk S T C K) 3 S T C K (.slice A5 n5 c5) w) := by
  have H1 := Lib.hid h1; have H2 := Lib.hid h2; have H3 := Lib.hid h3; have H4 := Lib.hid h4
  obtain ⟨A1, c1, rfl, -, -, -⟩ := h1
  obtain ⟨A2, c2, rfl, -, -, -⟩ := h2
  obtain ⟨A3, c3, rfl, -, -, -⟩ := h3
  obtain ⟨A4, c4, rfl, -, -, -⟩ := h4
  have Hb0 : Hid (Below w.heap.size w (w.alloc (.cells #[.int .i64 3, .slice A1 S.length c1, .slice A2 T.length c2, .slice A3 C.length c3, .slice A4 K.length c4, .slice A5 n5 c5] 25))) := Lib.hid ((Below.refl _ w).alloc (Nat.le_refl _) _)
  have HS := Lib.hid (slabOf_any 3 (H1.out.at hB Hb0.out) (H2.out.at hB Hb0.out) (H3.out.at hB Hb0.out) (H4.out.at hB Hb0.out) A5 n5 c5 (Nat.le_refl _))
  obtain ⟨q0, q2, q3⟩ := add4 S.length T.length C.length K.length m1 m2 m3 m4
  generalize hr : (decide (n5 = 0) && slabOk S T C K) = r
  have Hr := Lib.hid hr
  clear hr
  have h5 : n5 = 0 ∨ 0 < n5 := by omega
  go_enter Try.func67, Try.ntmps67
  go_wp2_with fail
  refine HS.out.mono ?_
  rintro e w1 ⟨g, ⟨hok, b, hb1, hb2, rfl, hsl⟩ | ⟨hok, rfl⟩⟩
  · have Hb1 : Hid (Below w.heap.size w w1) := Lib.hid (Hb0.out.trans (g.mono Hb0.out.size))
    have Hok := Lib.hid hok; have Hsl := Lib.hid hsl
    have hb3 : w.heap.size ≤ b := by have := Hb0.out.size; omega
    clear g hok hsl q0 q2 q3
    rcases h5 with rfl | h5
    · obtain rfl : true = r := by rw [← Hr.out, Hok.out]; rfl
      clear Hr
      go_wp2_with fail
      go_ret2
      exact PickRes.yes Hb1.out ⟨fun h => by omega, fun h => by omega, fun _ => ⟨b, hb1, hb3, rfl, Hsl.out⟩, fun h => by omega⟩
    · obtain rfl : false = r := by rw [← Hr.out]; simp; omega
      have q1 : decide (0 < n5) = true := decide_eq_true h5
      clear Hr
      go_wp2_with fail
      go_ret2
      exact PickRes.no _ Hb1.out
  · have Hb1 : Hid (Below w.heap.size w w1) := Lib.hid (Hb0.out.trans (g.mono Hb0.out.size))
    have Hok := Lib.hid hok
    obtain rfl : false = r := by rw [← Hr.out, Hok.out]; simp
    clear g hok Hr q0 q2 q3
    go_wp2_with fail
    go_ret2
    exact PickRes.no _ Hb1.out
set_option maxHeartbeats 4000000 in
set_option maxRecDepth 100000 in
theorem pick4 {B : Nat} {w : World} {v5 : Value} {ps : List (List Int)} (h5 : RiP B w v5 ps) (S T C K : List Int) (A1 A2 A3 A4 : Option Addr) (c1 c2 c3 c4 : Nat) (hB : B ≤ w.heap.size) (m1 : S.length ≤ 1099511627776) (m2 : T.length ≤ 1099511627776) (m3 : C.length ≤ 1099511627776) (m4 : K.length ≤ 1099511627776) :
    Calls Try.prog 67 #[.agg #[.int .i64 4, .slice A1 S.length c1, .slice A2 T.length c2, .slice A3 C.length c3, .slice A4 K.length c4, v5]] w (PickRes (plainB S T C K && ptsOk ps) 4 S T C K v5 w) := by
  have H5 := Lib.hid h5
  obtain ⟨A5, c5, rfl, -, -, -⟩ := h5
  generalize hr : (plainB S T C K && ptsOk ps) = r
  have Hr := Lib.hid hr
  clear hr
  have Hpl : Hid (plainB S T C K = decide (S.length + T.length + C.length + K.length = 0)) := Lib.hid (plain_sum _ _ _ _)
  generalize hn1 : S.length = n1 at *
  generalize hn2 : T.length = n2 at *
  generalize hn3 : C.length = n3 at *
  generalize hn4 : K.length = n4 at *
  have Hn1 := Lib.hid hn1; have Hn2 := Lib.hid hn2; have Hn3 := Lib.hid hn3; have Hn4 := Lib.hid hn4
  clear hn1 hn2 hn3 hn4
  have Hb0 : Hid (Below w.heap.size w (w.alloc (.cells #[.int .i64 4, .slice A1 n1 c1, .slice A2 n2 c2, .slice A3 n3 c3, .slice A4 n4 c4, .slice A5 ps.length c5] 25))) := Lib.hid ((Below.refl _ w).alloc (Nat.le_refl _) _)
  have HP := Lib.hid (ptsFormed_any (H5.out.at hB Hb0.out) (Nat.le_refl _))
  generalize hpo : ptsOk ps = po at *
  have Hpo := Lib.hid hpo
  clear hpo
  by_cases hz : n1 + n2 + n3 + n4 = 0
  · obtain ⟨rfl, rfl, rfl, rfl⟩ : n1 = 0 ∧ n2 = 0 ∧ n3 = 0 ∧ n4 = 0 := by omega
    obtain rfl : po = r := by rw [← Hr.out, Hpl.out]; simp
    clear hz Hr
    go_enter Try.func67, Try.ntmps67
    go_wp2_with fail
    refine HP.out.mono ?_
    rintro e w1 ⟨rfl, g⟩
    have Hb1 : Hid (Below w.heap.size w w1) := Lib.hid (Hb0.out.trans (g.mono Hb0.out.size))
    clear g
    cases po
    · go_wp2_with fail
      go_ret2
      exact PickRes.no _ Hb1.out
    · go_wp2_with fail
      go_ret2
      exact PickRes.yes Hb1.out ⟨fun h => by omega, fun h => by omega, fun h => by omega, fun _ => rfl⟩
  · obtain rfl : false = r := by rw [← Hr.out, Hpl.out, decide_eq_false hz]; rfl
    obtain ⟨q0, q2, q3⟩ := add4 n1 n2 n3 n4 m1 m2 m3 m4
    have q1 : decide ((0 : Int) < (n1 : Int) + (n2 : Int) + (n3 : Int) + (n4 : Int)) = true := decide_eq_true (by omega)
    clear hz Hr
    go_enter Try.func67, Try.ntmps67
    go_wp2_with fail
    refine HP.out.mono ?_
    rintro e w1 ⟨rfl, g⟩
    have Hb1 : Hid (Below w.heap.size w w1) := Lib.hid (Hb0.out.trans (g.mono Hb0.out.size))
    clear g q0 q1 q2 q3
    cases po
    all_goals
      go_wp2_with fail
      go_ret2
      exact PickRes.no _ Hb1.out
set_option maxHeartbeats 1000000 in
set_option maxRecDepth 100000 in
theorem pick0 (w : World) (k : Int) (hk1 : k ≠ 1) (hk2 : k ≠ 2) (hk3 : k ≠ 3) (hk4 : k ≠ 4) (S T C K : List Int) (A1 A2 A3 A4 A5 : Option Addr) (n1 n2 n3 n4 n5 c1 c2 c3 c4 c5 : Nat) (m1 : n1 ≤ 1099511627776) (m2 : n2 ≤ 1099511627776) (m3 : n3 ≤ 1099511627776) (m4 : n4 ≤ 1099511627776) :
    Calls Try.prog 67 #[.agg #[.int .i64 k, .slice A1 n1 c1, .slice A2 n2 c2, .slice A3 n3 c3, .slice A4 n4 c4, .slice A5 n5 c5]] w (PickRes false k S T C K (.slice A5 n5 c5) w) := by
  have Hb0 : Hid (Below w.heap.size w (w.alloc (.cells #[.int .i64 k, .slice A1 n1 c1, .slice A2 n2 c2, .slice A3 n3 c3, .slice A4 n4 c4, .slice A5 n5 c5] 25))) := Lib.hid ((Below.refl _ w).alloc (Nat.le_refl _) _)
  have k1 : (k == 1) = false := by simpa using hk1
  have k2 : (k == 2) = false := by simpa using hk2
  have k3 : (k == 3) = false := by simpa using hk3
  have k4 : (k == 4) = false := by simpa using hk4
  obtain ⟨q0, q2, q3⟩ := add4 n1 n2 n3 n4 m1 m2 m3 m4
  clear hk1 hk2 hk3 hk4
  go_enter Try.func67, Try.ntmps67
  go_wp2
  go_ret2
  exact PickRes.no _ Hb0.out
theorem pickerOf_any {B : Nat} {w : World} (k : Int) {v1 v2 v3 v4 v5 : Value} {S T C K : List Int} {ps : List (List Int)} (h1 : Ri B w v1 S) (h2 : Ri B w v2 T) (h3 : Ri B w v3 C) (h4 : Ri B w v4 K) (h5 : RiP B w v5 ps) (hB : B ≤ w.heap.size) (m1 : S.length ≤ 1048576) (m2 : T.length ≤ 1048576) (m3 : C.length ≤ 1048576) (m4 : K.length ≤ 1048576) :
    Calls Try.prog 67 #[.agg #[.int .i64 k, v1, v2, v3, v4, v5]] w (PickRes (formedB k S T C K ps) k S T C K v5 w) := by
  have g1 := h1; have g2 := h2; have g3 := h3; have g4 := h4; have g5 := h5
  obtain ⟨A1, c1, rfl, -, -, -⟩ := h1
  obtain ⟨A2, c2, rfl, -, -, -⟩ := h2
  obtain ⟨A3, c3, rfl, -, -, -⟩ := h3
  obtain ⟨A4, c4, rfl, -, -, -⟩ := h4
  obtain ⟨A5, c5, rfl, -, -, -⟩ := h5
  unfold formedB
  by_cases h12 : k = 1 ∨ k = 2
  · rw [if_pos h12]
    exact pick1 w k h12 S T C K A1 A2 A3 A4 A5 S.length T.length C.length K.length ps.length c1 c2 c3 c4 c5 (by omega) (by omega) (by omega) (by omega)
  rw [if_neg h12]
  by_cases e3 : k = 3
  · subst e3
    rw [if_pos rfl]
    exact pick3 g1 g2 g3 g4 A5 ps.length c5 hB (by omega) (by omega) (by omega) (by omega)
  rw [if_neg e3]
  by_cases e4 : k = 4
  · subst e4
    rw [if_pos rfl]
    exact pick4 g5 S T C K A1 A2 A3 A4 c1 c2 c3 c4 hB (by omega) (by omega) (by omega) (by omega)
  rw [if_neg e4]
  exact pick0 w k (fun h => h12 (.inl h)) (fun h => h12 (.inr h)) e3 e4 S T C K A1 A2 A3 A4 A5 S.length T.length C.length K.length ps.length c1 c2 c3 c4 c5 (by omega) (by omega) (by omega) (by omega)
end Go.Proofs.Ytbghekgghiamcaa
