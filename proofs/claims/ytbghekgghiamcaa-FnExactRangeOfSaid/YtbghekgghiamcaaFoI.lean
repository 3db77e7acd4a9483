/- Contracts of the program's checks of points. No statement is proved here. -/
import Derived.Test.YtbghekgghiamcaaRep
import Derived.Test.YtbghekgghiamcaaFoP
import Derived.Test.YtbghekgghiamcaaIdx
namespace Go.Proofs.Ytbghekgghiamcaa
open Go.RowKit
set_option linter.unusedVariables false
theorem allTo_congr {p q : Nat → Bool} : ∀ (n : Nat), (∀ i, i < n → p i = q i) → allTo p n = allTo q n
  | 0, _ => rfl
  | n + 1, h => by rw [allTo_succ, allTo_succ, allTo_congr n (fun i hi => h i (by omega)), h n (by omega)]
def withinB (xs : List Int) (ps : List (List Int)) : Bool := allTo (fun i => inside xs (ps.getD i [])) ps.length
theorem pts_within {ps : List (List Int)} (h0 : 0 < ps.length) (h3 : (ps[0]'h0).length ≤ 3) (hn : inB (ps.length : Int) 1 24 = true) : withinB (List.replicate (ps[0]'h0).length 40) ps = ptsOk ps := by
  unfold withinB ptsOk
  rw [hn, Bool.true_and]
  refine allTo_congr _ fun i hi => ?_
  rw [ptAt_at hi, getD_pt _ _ hi]
  unfold inside
  rw [List.length_replicate]
  generalize (ps[0]'h0).length = r at *
  generalize ps[i] = ys
  by_cases hr : ys.length = r
  · subst hr
    simp only [decide_true, Bool.true_and]
    rw [decide_eq_true h3, Bool.true_and]
    refine allTo_congr _ fun j hj => ?_
    rw [inP_at _ _ _ (by simpa using hj) hj, getD_at _ _ hj, List.getElem_replicate, inB, Bool.eq_iff_iff]
    simp
    omega
  · simp [hr]
set_option maxHeartbeats 1000000 in
set_option maxRecDepth 100000 in
theorem within_any {B : Nat} {w : World} {v u : Value} {xs : List Int} {ps : List (List Int)} (h : RiP B w v ps) (h2 : Ri B w u xs) (hB : B ≤ w.heap.size) :
    Calls Try.prog 87 #[v, u] w (GivesB (.bool (withinB xs ps)) w) := by
  have H2 := Lib.hid h2
  obtain ⟨A, c, rfl, hl, hm, hx⟩ := h
  obtain ⟨D, d, rfl, -, -, -⟩ := h2
  have Hx := Lib.hid hx; clear hx
  unfold maxLen at hm
  generalize hr : withinB xs ps = r
  have Hr := Lib.hid hr; clear hr
  go_enter Try.func87, Try.ntmps87
  go_wp2
  go_loopw [9] (fun i wr => ∃ k : Nat, k ≤ ps.length ∧ i = .int .i64 k ∧ Below w.heap.size w wr ∧ allTo (fun i => inside xs (ps.getD i [])) k = true) (fun i _ => ps.length - (intOf i).toNat)
  case atStart => exact ⟨0, Nat.zero_le _, rfl, Below.refl _ _, allTo_zero _⟩
  case round =>
    obtain ⟨k, hk, rfl, hbel, hall⟩ := hrel
    have Hall := Lib.hid hall; have Hbel := Lib.hid hbel
    clear hall
    by_cases hlt : k < ps.length
    · obtain ⟨b, o, q, rfl, hb, hq, hri⟩ := Hx.out k hlt
      have g1 : wr.cell? ⟨b, o + k, none⟩ = some q := by rw [hbel.cell (p := ⟨b, o + k, none⟩) (show b < _ from by omega)]; exact hq
      have hs := hbel.size
      have hlb : b < wr.heap.size := by omega
      have Hri := Lib.hid (hri.at hB hbel)
      have Hrx := Lib.hid (H2.out.at hB hbel)
      obtain ⟨E, e, rfl, -, -, -⟩ := hri
      have Hw2 : Hid (Below wr.heap.size wr (wr.alloc (.cells #[.slice E ps[k].length e] 66))) := Lib.hid ((Below.refl _ wr).alloc (Nat.le_refl _) _)
      have Hw3 : Hid (Below w.heap.size w (wr.alloc (.cells #[.slice E ps[k].length e] 66))) := Lib.hid (hbel.trans (Hw2.out.mono hs))
      have Hgd := Lib.hid (getD_pt ps k hlt)
      have Hs2 := Lib.hid (allTo_succ (fun i => inside xs (ps.getD i [])) k)
      have Hbad : Hid (inside xs ps[k] = false → r = false) := Lib.hid (fun h => by
        rw [← Hr.out]; exact allTo_bad (fun i => inside xs (ps.getD i [])) k _ hlt (by show inside xs (ps.getD k []) = false; rw [Hgd.out]; exact h))
      clear hq hbel
      cases hin : inside xs ps[k]
      · have Hin := Lib.hid hin
        have Hf : Hid (r = false) := Lib.hid (Hbad.out hin)
        clear hin Hbad
        go_wp2_with (go_at_call 90; (with_reducible refine (contain_no (Hrx.out.at (Nat.le_refl _) Hw2.out) (Hri.out.at (Nat.le_refl _) Hw2.out) (Nat.le_refl _) Hin.out).mono ?_); rintro e w' ⟨rfl, rfl⟩)
        go_ret
        exact ⟨by rw [Hf.out]; rfl, Hw3.out⟩
      · have Hin := Lib.hid hin
        have Hall2 : Hid (allTo (fun i => inside xs (ps.getD i [])) (k + 1) = true) := Lib.hid (by rw [Hs2.out, Hall.out]; show (true && inside xs (ps.getD k [])) = true; rw [Hgd.out, hin]; rfl)
        clear hin Hbad
        go_wp2_with (go_at_call 90; (with_reducible refine (contain_yes (Hrx.out.at (Nat.le_refl _) Hw2.out) (Hri.out.at (Nat.le_refl _) Hw2.out) (Nat.le_refl _) Hin.out).mono ?_); rintro e w' ⟨rfl, rfl⟩)
        go_roundw
        case rel => exact ⟨k + 1, by omega, by go_num, Hw3.out, Hall2.out⟩
        case measure => simp [intOf]; omega
    · have Hf : Hid (r = true) := Lib.hid (by rw [← Hr.out]; unfold withinB; rw [show ps.length = k by omega]; exact Hall.out)
      clear hbel
      go_wp2
      go_ret
      exact ⟨by rw [Hf.out]; rfl, Hbel.out⟩
theorem within_r {B : Nat} {w : World} {v u : Value} {xs : List Int} {ps : List (List Int)} {r : Bool} (h : RiP B w v ps) (h2 : Ri B w u xs) (hB : B ≤ w.heap.size) (hr : withinB xs ps = r) :
    Calls Try.prog 87 #[v, u] w (GivesB (.bool r) w) := by
  subst hr
  exact within_any h h2 hB
theorem in40 : ∀ (n : Nat), ∀ x ∈ List.replicate n (40 : Int), InI x := fun n x hx => by
  obtain ⟨_, rfl⟩ := List.mem_replicate.1 hx
  unfold InI; omega
set_option maxHeartbeats 1000000 in
set_option maxRecDepth 100000 in
theorem ptsFormed_any {B : Nat} {w : World} {v : Value} {ps : List (List Int)} (h : RiP B w v ps) (hB : B ≤ w.heap.size) : Calls Try.prog 83 #[v] w (GivesB (.bool (ptsOk ps)) w) := by
  have H := Lib.hid h
  obtain ⟨A, c, rfl, hl, hm, hx⟩ := h
  have Hx := Lib.hid hx; clear hx
  unfold maxLen at hm
  generalize hr : ptsOk ps = r
  have Hr := Lib.hid hr; clear hr
  by_cases h1 : ps.length < 1
  · have Hf : Hid (r = false) := Lib.hid (by rw [← Hr.out]; exact ptsOk_n (inB_no (.inl (by omega))))
    have q1 : decide ((ps.length : Int) < 1) = true := decide_eq_true (by omega)
    go_enter Try.func83, Try.ntmps83
    go_wp2
    go_ret
    exact ⟨by rw [Hf.out]; rfl, Below.refl _ _⟩
  have q1 : decide ((ps.length : Int) < 1) = false := decide_eq_false (by omega)
  by_cases h24 : 24 < ps.length
  · have Hf : Hid (r = false) := Lib.hid (by rw [← Hr.out]; exact ptsOk_n (inB_no (.inr (by omega))))
    have q2 : decide ((24 : Int) < (ps.length : Int)) = true := decide_eq_true (by omega)
    go_enter Try.func83, Try.ntmps83
    go_wp2
    go_ret
    exact ⟨by rw [Hf.out]; rfl, Below.refl _ _⟩
  have q2 : decide ((24 : Int) < (ps.length : Int)) = false := decide_eq_false (by omega)
  have hpos : 0 < ps.length := by omega
  obtain ⟨b, o, u, rfl, hb, hq, hri⟩ := Hx.out 0 hpos
  obtain ⟨E, e, rfl, -, he, -⟩ := hri
  unfold maxLen at he
  rw [Nat.add_zero] at hq
  have Hw := Lib.hid (pts_within hpos)
  have Hp0 : Hid (3 < (ps[0]'hpos).length → ptAt ps 0 = false) := Lib.hid (fun h => by rw [ptAt_at hpos]; simp; omega)
  generalize (ps[0]'hpos).length = n0 at *
  have hlb : b < w.heap.size := by omega
  by_cases h3 : 3 < n0
  · have Hf : Hid (r = false) := Lib.hid (by rw [← Hr.out]; exact ptsOk_bad hpos (Hp0.out h3))
    have q3 : decide ((3 : Int) < (n0 : Int)) = true := decide_eq_true (by omega)
    clear Hp0 Hw
    go_enter Try.func83, Try.ntmps83
    go_wp2
    go_ret
    exact ⟨by rw [Hf.out]; rfl, Below.refl _ _⟩
  have q3 : decide ((3 : Int) < (n0 : Int)) = false := decide_eq_false (by omega)
  have Hf : Hid (withinB (List.replicate n0 40) ps = r) := Lib.hid ((Hw.out (by omega) (inB_yes (by omega) (by omega))).trans Hr.out)
  have Hb0 : Hid (Below w.heap.size w (w.alloc (.cells #[.int .i64 40] 2))) := Lib.hid ((Below.refl _ w).alloc (Nat.le_refl _) _)
  have Hc0 : Hid ((w.alloc (.cells #[.int .i64 40] 2)).cell? ⟨w.heap.size, 0, none⟩ = some (.int .i64 40)) := Lib.hid (by rw [cell_of_row _ _ _ _ _ _ (heap_alloc_new w _)]; rfl)
  clear Hp0 Hw
  go_enter Try.func83, Try.ntmps83
  go_wp2_with fail
  refine (repeat_any n0 (by omega) 40 _ _ Hc0.out).mono ?_
  rintro e1 w1 ⟨rfl, hr1, hb1⟩
  have Hb1 : Hid (Below w.heap.size w w1) := Lib.hid (Hb0.out.trans (hb1.mono Hb0.out.size))
  have Hri1 : Hid (Ri w1.heap.size w1 (.slice (some ⟨w.heap.size + 1, 0, none⟩) n0 n0) (List.replicate n0 40)) := Lib.hid (by
    have e0 : (w.alloc (.cells #[.int .i64 40] 2)).heap.size = w.heap.size + 1 := by simp
    have := hr1.ri hr1.lt (in40 n0) (by rw [List.length_replicate]; unfold maxLen; omega)
    rw [List.length_replicate, e0] at this
    exact this)
  clear hr1 hb1
  go_wp2_with fail
  refine (within_r (H.out.at hB Hb1.out) Hri1.out (Nat.le_refl _) Hf.out).mono ?_
  rintro e2 w2 ⟨rfl, hb2⟩
  have Hb2 : Hid (Below w.heap.size w w2) := Lib.hid (Hb1.out.trans (hb2.mono Hb1.out.size))
  clear hb2
  go_wp2_with fail
  go_ret
  exact ⟨rfl, Hb2.out⟩
end Go.Proofs.Ytbghekgghiamcaa
