/- Contracts of the laws' functions that mark and hold lists of runs. No statement is proved here. -/
import Derived.Test.YtlickjmdlooapaaRun
import Derived.Test.YtlickjmdlooapaaMrU
import Derived.Deep.Cut
namespace Go.Proofs.Ytlickjmdlooapaa
open Go.RowKit
set_option linter.unusedVariables false
theorem flatR_m0 : ∀ (ps : List ER) (j : Nat) (x : Int) (h : j < ps.length), flatR (ps.set j (x, ps[j].2)) = (flatR ps).set (j * 2) (.int .i64 x)
  | p :: ps, 0, x, _ => rfl
  | p :: ps, j + 1, x, h => by
    have e1 : (j + 1) * 2 = j * 2 + 2 := by omega
    rw [e1]
    simp only [List.set_cons_succ, flatR, List.getElem_cons_succ]
    rw [flatR_m0 ps j x (Nat.lt_of_succ_lt_succ h)]
theorem flatR_m1 : ∀ (ps : List ER) (j : Nat) (x : Int) (h : j < ps.length), flatR (ps.set j (ps[j].1, x)) = (flatR ps).set (j * 2 + 1) (.int .i64 x)
  | p :: ps, 0, x, _ => rfl
  | p :: ps, j + 1, x, h => by
    have e1 : (j + 1) * 2 + 1 = j * 2 + 1 + 2 := by omega
    rw [e1]
    simp only [List.set_cons_succ, flatR, List.getElem_cons_succ]
    rw [flatR_m1 ps j x (Nat.lt_of_succ_lt_succ h)]
theorem OR.m0 {w : World} {lo g cap n : Nat} {ps : List ER} (h : OR w lo (.slice (some ⟨g, 0, none⟩) n cap) ps) (j : Nat) (x : Int) (hj : j < ps.length) : OR (w.setCell ⟨g, j * 2, none⟩ (.int .i64 x)) lo (.slice (some ⟨g, 0, none⟩) n cap) (ps.set j (x, ps[j].2)) := by
  unfold OR
  rw [flatR_m0 ps j x hj, List.length_set]
  exact own_set h (by rw [flatR_len]; omega)
theorem OR.m1 {w : World} {lo g cap n : Nat} {ps : List ER} (h : OR w lo (.slice (some ⟨g, 0, none⟩) n cap) ps) (j : Nat) (x : Int) (hj : j < ps.length) : OR (w.setCell ⟨g, j * 2 + 1, none⟩ (.int .i64 x)) lo (.slice (some ⟨g, 0, none⟩) n cap) (ps.set j (ps[j].1, x)) := by
  unfold OR
  rw [flatR_m1 ps j x hj, List.length_set]
  exact own_set h (by rw [flatR_len]; omega)
def marksR (k n : Nat) : List ER := (List.range n).map fun (i : Nat) => (((k : Int) + 2 * (i : Int)), ((k : Int) + 2 * (i : Int) + 1))
theorem marksR_length (k n : Nat) : (marksR k n).length = n := by simp [marksR]
theorem marksR_at (k n i : Nat) (h : i < (marksR k n).length) : (marksR k n)[i] = (((k : Int) + 2 * (i : Int)), ((k : Int) + 2 * (i : Int) + 1)) := by simp [marksR]
def mkdR (k : Nat) (xs : List ER) (j : Nat) : List ER := marksR k j ++ xs.drop j
theorem mkdR_length (k : Nat) (xs : List ER) (j : Nat) (h : j ≤ xs.length) : (mkdR k xs j).length = xs.length := by
  unfold mkdR; rw [List.length_append, marksR_length, List.length_drop]; omega
theorem mkdR_step (k : Nat) (xs : List ER) (j : Nat) (h : j < xs.length) : (mkdR k xs j).set j (((k : Int) + 2 * (j : Int)), ((k : Int) + 2 * (j : Int) + 1)) = mkdR k xs (j + 1) := by
  unfold mkdR
  rw [List.set_append, if_neg (by rw [marksR_length]; omega), marksR_length, Nat.sub_self]
  rw [List.drop_eq_getElem_cons h, List.set_cons_zero]
  simp [marksR, List.range_succ]
theorem mkdR_end (k : Nat) (xs : List ER) : mkdR k xs xs.length = marksR k xs.length := by
  unfold mkdR; simp
set_option maxHeartbeats 1000000 in
theorem markR_any {w : World} {lo : Nat} {v : Value} {xs : List ER} (h : OR w lo v xs) (k : Nat) (h1 : 1 ≤ k) (hk : k + 2 * xs.length ≤ 8000000) :
    Calls Try.prog 34 #[v, .int .i64 (k : Int)] w fun e w' => e = .returned (.int .i64 ((k + 2 * xs.length : Nat) : Int)) ∧ OR w' lo v (marksR k xs.length) ∧ w.grownBy w' v.ownBlock := by
  have H := Lib.hid h
  rcases h.sl with ⟨rfl, rfl⟩ | ⟨g, cap, rfl, hlo, hg, hn, hm⟩
  · go_enter Try.func34, Try.ntmps34
    go_wp2
    go_loop [1, 5] (fun c i => i = .int .i64 0 ∧ c = .int .i64 (k : Int)) (fun _ _ => 0)
    case atStart => exact ⟨rfl, rfl⟩
    case round =>
      obtain ⟨rfl, rfl⟩ := hrel
      go_wp2
      go_ret
      exact ⟨rfl, H.out, grown_refl _ _⟩
  · unfold maxLen at hm
    clear h
    go_enter Try.func34, Try.ntmps34
    go_wp2
    go_loopw [1, 5] (fun c i wr => ∃ j : Nat, j ≤ xs.length ∧ i = .int .i64 (j : Int) ∧ c = .int .i64 ((k : Int) + 2 * (j : Int)) ∧ OR wr lo (.slice (some ⟨g, 0, none⟩) xs.length cap) (mkdR k xs j) ∧ w.grownBy wr (some g)) (fun _ i _ => xs.length - (intOf i).toNat)
    case atStart => exact ⟨0, Nat.zero_le _, rfl, by go_num, H.out, grown_refl _ _⟩
    case round =>
      obtain ⟨j, hj, rfl, rfl, hown, hgr⟩ := hrel
      have Hown := Lib.hid hown; have Hgr := Lib.hid hgr
      clear hgr
      by_cases hlt : j < xs.length
      · have Hlen := Lib.hid (mkdR_length k xs j hj)
        have hu := (hown.cell j (by rw [Hlen.out]; exact hlt)).1
        have hfz := own_frozen hown (j * 2)
        have HO1 : Hid (OR (wr.setCell ⟨g, j * 2, none⟩ (.int .i64 ((k : Int) + 2 * (j : Int)))) lo (.slice (some ⟨g, 0, none⟩) xs.length cap) ((mkdR k xs j).set j (((k : Int) + 2 * (j : Int)), ((mkdR k xs j)[j]'(by rw [Hlen.out]; exact hlt)).2))) := Lib.hid (hown.m0 j _ (by rw [Hlen.out]; exact hlt))
        have HG1 : Hid (w.grownBy (wr.setCell ⟨g, j * 2, none⟩ (.int .i64 ((k : Int) + 2 * (j : Int)))) (some g)) := Lib.hid (grown_trans Hgr.out (grown_set _ _ _ _))
        clear hown
        go_upto_region 6 with fail
        clear hu hfz
        generalize (wr.setCell ⟨g, j * 2, none⟩ (.int .i64 ((k : Int) + 2 * (j : Int)))) = w1 at *
        have hown2 := HO1.out
        have hu := (hown2.cell j (by rw [List.length_set, Hlen.out]; exact hlt)).2
        have hfz := own_frozen hown2 (j * 2 + 1)
        have Hset : Hid (OR (w1.setCell ⟨g, j * 2 + 1, none⟩ (.int .i64 ((k : Int) + 2 * (j : Int) + 1))) lo (.slice (some ⟨g, 0, none⟩) xs.length cap) (mkdR k xs (j + 1))) := Lib.hid (by
          have h3 := hown2.m1 j ((k : Int) + 2 * (j : Int) + 1) (by rw [List.length_set, Hlen.out]; exact hlt)
          rw [List.set_set, List.getElem_set_self] at h3
          rw [← mkdR_step k xs j hlt]
          exact h3)
        have Hgr2 : Hid (w.grownBy (w1.setCell ⟨g, j * 2 + 1, none⟩ (.int .i64 ((k : Int) + 2 * (j : Int) + 1))) (some g)) := Lib.hid (grown_trans HG1.out (grown_set _ _ _ _))
        clear hown2
        go_wp2
        go_roundw
        case rel => exact ⟨j + 1, by omega, by go_num, by go_num, Hset.out, Hgr2.out⟩
        case measure => simp [intOf]; omega
      · obtain rfl : j = xs.length := by omega
        have Hend : Hid (OR wr lo (.slice (some ⟨g, 0, none⟩) xs.length cap) (marksR k xs.length)) := Lib.hid (mkdR_end k xs ▸ hown)
        clear hown
        go_wp2
        go_ret
        exact ⟨rfl, Hend.out, Hgr.out⟩
set_option maxHeartbeats 1000000 in
set_option maxRecDepth 100000 in
theorem heldR_any {w : World} {lo n : Nat} {v : Value} (k : Nat) (h : OR w lo v (marksR k n)) (h1 : 1 ≤ k) (hk : k + 2 * n ≤ 8000000) :
    Calls Try.prog 35 #[v, .int .i64 (k : Int)] w (GivesB (.int .i64 ((k + 2 * n : Nat) : Int)) w) := by
  have H := Lib.hid h
  have Hl := Lib.hid (marksR_length k n)
  rcases h.sl with ⟨rfl, h0⟩ | ⟨g, cap, rfl, hlo, hg, hn, hm⟩
  · have hn0 : n = 0 := by have := congrArg List.length h0; rw [marksR_length] at this; simpa using this
    subst hn0
    clear h h0
    go_enter Try.func35, Try.ntmps35
    go_wp2
    go_loop [1, 5] (fun c i => i = .int .i64 0 ∧ c = .int .i64 (k : Int)) (fun _ _ => 0)
    case atStart => exact ⟨rfl, rfl⟩
    case round =>
      obtain ⟨rfl, rfl⟩ := hrel
      go_wp2
      go_ret
      exact ⟨rfl, Below.refl _ _⟩
  · unfold maxLen at hm
    rw [marksR_length] at hn ⊢
    clear h
    go_enter Try.func35, Try.ntmps35
    go_wp2
    go_loopw [1, 5] (fun c i wr => ∃ j : Nat, j ≤ n ∧ i = .int .i64 (j : Int) ∧ c = .int .i64 ((k : Int) + 2 * (j : Int)) ∧ Below w.heap.size w wr) (fun _ i _ => n - (intOf i).toNat)
    case atStart => exact ⟨0, Nat.zero_le _, rfl, by go_num, Below.refl _ _⟩
    case round =>
      obtain ⟨j, hj, rfl, rfl, hbel⟩ := hrel
      have Hbel := Lib.hid hbel
      by_cases hlt : j < n
      · have h2 := H.out.cell j (by rw [Hl.out]; exact hlt)
        rw [marksR_at] at h2
        have q1 := (hbel.cell (p := ⟨g, j * 2, none⟩) hg).trans h2.1
        have q2 := (hbel.cell (p := ⟨g, j * 2 + 1, none⟩) hg).trans h2.2
        clear hbel h2
        go_wp2_with fail
        go_roundw
        case rel => exact ⟨j + 1, by omega, by go_num, by go_num, Hbel.out⟩
        case measure => simp [intOf]; omega
      · obtain rfl : j = n := by omega
        clear hbel
        go_wp2
        go_ret
        exact ⟨rfl, Hbel.out⟩
end Go.Proofs.Ytlickjmdlooapaa
