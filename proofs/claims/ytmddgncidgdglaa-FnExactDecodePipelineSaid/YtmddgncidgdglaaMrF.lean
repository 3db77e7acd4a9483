/- Contracts of the laws' functions that mark and hold lists of filters. No statement is proved here. -/
import Derived.Test.YtmddgncidgdglaaFil
import Derived.Deep.Cut
namespace Go.Proofs.Ytmddgncidgdglaa
open Go.RowKit
set_option linter.unusedVariables false
theorem own_setF {w : World} {lo sz n g c m q : Nat} {T : TypeId} {vs : List Value} {u : Value} (h : w.ownsRow lo T sz (.slice (some ⟨g, 0, none⟩) m c) n vs) (hq : q < vs.length) : (w.setCell ⟨g, q, none⟩ u).ownsRow lo T sz (.slice (some ⟨g, 0, none⟩) m c) n (vs.set q u) := by
  rcases h.2 with ⟨h0, _⟩ | ⟨g', cap', cur, he, hb, hg, hnc, hm, hcs, htake⟩
  · cases h0
  · cases he
    refine ⟨by rw [List.length_set]; exact h.1, .inr ⟨g, c, cur.setIfInBounds q u, rfl, hb, heap_setCell_same _ _ _ _ _ _ hg, hnc, hm, by simpa using hcs, ?_⟩⟩
    rw [Array.toList_setIfInBounds, List.take_set, htake]
theorem flatFI_m0 : ∀ (ps : List EFI) (j : Nat) (x : Int) (h : j < ps.length), flatFI (ps.set j (x, ps[j].2)) = (flatFI ps).set (j * 3) (.int .i64 x)
  | p :: ps, 0, x, _ => rfl
  | p :: ps, j + 1, x, h => by
    have e1 : (j + 1) * 3 = j * 3 + 3 := by omega
    rw [e1]
    simp only [List.set_cons_succ, flatFI, List.getElem_cons_succ]
    rw [flatFI_m0 ps j x (Nat.lt_of_succ_lt_succ h)]
theorem OFI.m0 {w : World} {lo g cap n : Nat} {ps : List EFI} (h : OFI w lo (.slice (some ⟨g, 0, none⟩) n cap) ps) (j : Nat) (x : Int) (hj : j < ps.length) : OFI (w.setCell ⟨g, j * 3, none⟩ (.int .i64 x)) lo (.slice (some ⟨g, 0, none⟩) n cap) (ps.set j (x, ps[j].2)) := by
  unfold OFI
  rw [flatFI_m0 ps j x hj, List.length_set]
  exact own_setF h (by rw [flatFI_len]; omega)
theorem flatFI_m1 : ∀ (ps : List EFI) (j : Nat) (x : Int) (h : j < ps.length), flatFI (ps.set j (ps[j].1, x, ps[j].2.2)) = (flatFI ps).set (j * 3 + 1) (.int .i64 x)
  | p :: ps, 0, x, _ => rfl
  | p :: ps, j + 1, x, h => by
    have e1 : (j + 1) * 3 + 1 = j * 3 + 1 + 3 := by omega
    rw [e1]
    simp only [List.set_cons_succ, flatFI, List.getElem_cons_succ]
    rw [flatFI_m1 ps j x (Nat.lt_of_succ_lt_succ h)]
theorem OFI.m1 {w : World} {lo g cap n : Nat} {ps : List EFI} (h : OFI w lo (.slice (some ⟨g, 0, none⟩) n cap) ps) (j : Nat) (x : Int) (hj : j < ps.length) : OFI (w.setCell ⟨g, j * 3 + 1, none⟩ (.int .i64 x)) lo (.slice (some ⟨g, 0, none⟩) n cap) (ps.set j (ps[j].1, x, ps[j].2.2)) := by
  unfold OFI
  rw [flatFI_m1 ps j x hj, List.length_set]
  exact own_setF h (by rw [flatFI_len]; omega)
theorem flatFI_m2 : ∀ (ps : List EFI) (j : Nat) (x : Bool) (h : j < ps.length), flatFI (ps.set j (ps[j].1, ps[j].2.1, x)) = (flatFI ps).set (j * 3 + 2) (.bool x)
  | p :: ps, 0, x, _ => rfl
  | p :: ps, j + 1, x, h => by
    have e1 : (j + 1) * 3 + 2 = j * 3 + 2 + 3 := by omega
    rw [e1]
    simp only [List.set_cons_succ, flatFI, List.getElem_cons_succ]
    rw [flatFI_m2 ps j x (Nat.lt_of_succ_lt_succ h)]
theorem OFI.m2 {w : World} {lo g cap n : Nat} {ps : List EFI} (h : OFI w lo (.slice (some ⟨g, 0, none⟩) n cap) ps) (j : Nat) (x : Bool) (hj : j < ps.length) : OFI (w.setCell ⟨g, j * 3 + 2, none⟩ (.bool x)) lo (.slice (some ⟨g, 0, none⟩) n cap) (ps.set j (ps[j].1, ps[j].2.1, x)) := by
  unfold OFI
  rw [flatFI_m2 ps j x hj, List.length_set]
  exact own_setF h (by rw [flatFI_len]; omega)
def mark3 (k i : Nat) : EFI := ((k : Int) + 3 * (i : Int), (k : Int) + 3 * (i : Int) + 1, decide (((k : Int) + 3 * (i : Int) + 2) % 3 = 0))
def marksFI (k n : Nat) : List EFI := (List.range n).map (mark3 k)
theorem marksFI_length (k n : Nat) : (marksFI k n).length = n := by simp [marksFI]
theorem marksFI_at (k n i : Nat) (h : i < (marksFI k n).length) : (marksFI k n)[i] = mark3 k i := by simp [marksFI]
def mkdFI (k : Nat) (xs : List EFI) (j : Nat) : List EFI := marksFI k j ++ xs.drop j
theorem mkdFI_length (k : Nat) (xs : List EFI) (j : Nat) (h : j ≤ xs.length) : (mkdFI k xs j).length = xs.length := by
  unfold mkdFI; rw [List.length_append, marksFI_length, List.length_drop]; omega
theorem mkdFI_step (k : Nat) (xs : List EFI) (j : Nat) (h : j < xs.length) : (mkdFI k xs j).set j (mark3 k j) = mkdFI k xs (j + 1) := by
  unfold mkdFI
  rw [List.set_append, if_neg (by rw [marksFI_length]; omega), marksFI_length, Nat.sub_self]
  rw [List.drop_eq_getElem_cons h, List.set_cons_zero]
  simp [marksFI, List.range_succ]
theorem mkdFI_end (k : Nat) (xs : List EFI) : mkdFI k xs xs.length = marksFI k xs.length := by
  unfold mkdFI; simp
theorem bool3 (z : Int) (h : 0 ≤ z) : (z.tmod 3 == 0) = decide (z % 3 = 0) ∧ (z % 3 == 0) = decide (z % 3 = 0) := by
  rw [Int.tmod_eq_emod_of_nonneg h]
  have : (z % 3 == 0) = decide (z % 3 = 0) := by
    by_cases e : z % 3 = 0 <;> simp [e]
  exact ⟨this, this⟩
set_option maxHeartbeats 1000000 in
set_option maxRecDepth 100000 in
theorem markFI_any {w : World} {lo : Nat} {v : Value} {xs : List EFI} (h : OFI w lo v xs) (k : Nat) (h1 : 1 ≤ k) (hk : k + 3 * xs.length ≤ 8000000) :
    Calls Try.prog 45 #[v, .int .i64 (k : Int)] w fun e w' => e = .returned (.int .i64 ((k + 3 * xs.length : Nat) : Int)) ∧ OFI w' lo v (marksFI k xs.length) ∧ w.grownBy w' v.ownBlock := by
  have H := Lib.hid h
  rcases h.sl with ⟨rfl, rfl⟩ | ⟨g, cap, rfl, hlo, hg, hn, hm⟩
  · go_enter Try.func45, Try.ntmps45
    go_wp2
    go_loop [1, 5] (fun c i => i = .int .i64 0 ∧ c = .int .i64 (k : Int)) (fun _ _ => 0)
    case atStart => exact ⟨rfl, rfl⟩
    case round =>
      obtain ⟨rfl, rfl⟩ := hrel
      go_wp2
      go_ret
      exact ⟨rfl, H.out, grown_refl _ _⟩
  · unfold maxLen at hm
    clear h
    go_enter Try.func45, Try.ntmps45
    go_wp2
    go_loopw [1, 5] (fun c i wr => ∃ j : Nat, j ≤ xs.length ∧ i = .int .i64 (j : Int) ∧ c = .int .i64 ((k : Int) + 3 * (j : Int)) ∧ OFI wr lo (.slice (some ⟨g, 0, none⟩) xs.length cap) (mkdFI k xs j) ∧ w.grownBy wr (some g)) (fun _ i _ => xs.length - (intOf i).toNat)
    case atStart => exact ⟨0, Nat.zero_le _, rfl, by go_num, H.out, grown_refl _ _⟩
    case round =>
      obtain ⟨j, hj, rfl, rfl, hown, hgr⟩ := hrel
      have Hown := Lib.hid hown; have Hgr := Lib.hid hgr
      clear hgr
      by_cases hlt : j < xs.length
      · have Hlen := Lib.hid (mkdFI_length k xs j hj)
        have hu := (hown.cell j (by rw [Hlen.out]; exact hlt)).1
        have hfz := own_frozen hown (j * 3)
        have HO1 := Lib.hid (hown.m0 j ((k : Int) + 3 * (j : Int)) (by rw [Hlen.out]; exact hlt))
        have HG1 : Hid (w.grownBy (wr.setCell ⟨g, j * 3, none⟩ (.int .i64 ((k : Int) + 3 * (j : Int)))) (some g)) := Lib.hid (grown_trans Hgr.out (grown_set _ _ _ _))
        clear hown
        go_upto_region 6 with fail
        clear hu hfz
        generalize (wr.setCell ⟨g, j * 3, none⟩ (.int .i64 ((k : Int) + 3 * (j : Int)))) = w1 at *
        have hown2 := HO1.out
        have hu := (hown2.cell j (by rw [List.length_set, Hlen.out]; exact hlt)).2.1
        have hfz := own_frozen hown2 (j * 3 + 1)
        have HO2 := Lib.hid (hown2.m1 j ((k : Int) + 3 * (j : Int) + 1) (by rw [List.length_set, Hlen.out]; exact hlt))
        have HG2 : Hid (w.grownBy (w1.setCell ⟨g, j * 3 + 1, none⟩ (.int .i64 ((k : Int) + 3 * (j : Int) + 1))) (some g)) := Lib.hid (grown_trans HG1.out (grown_set _ _ _ _))
        clear hown2
        go_upto_region 8 with fail
        clear hu hfz
        generalize (w1.setCell ⟨g, j * 3 + 1, none⟩ (.int .i64 ((k : Int) + 3 * (j : Int) + 1))) = w2 at *
        have hown3 := HO2.out
        have hu := (hown3.cell j (by rw [List.length_set, List.length_set, Hlen.out]; exact hlt)).2.2
        have hfz := own_frozen hown3 (j * 3 + 2)
        obtain ⟨b, hb⟩ : ∃ b : Bool, b = decide (((k : Int) + 3 * (j : Int) + 2) % 3 = 0) := ⟨_, rfl⟩
        have hb1 : (((k : Int) + 3 * (j : Int) + 2).tmod 3 == 0) = b := by rw [hb]; exact (bool3 _ (by omega)).1
        have hb2 : (((k : Int) + 3 * (j : Int) + 2) % 3 == 0) = b := by rw [hb]; exact (bool3 _ (by omega)).2
        have hb3 : (((k : Int) + 3 * (j : Int) + 1 + 1).tmod 3 == 0) = b := by rw [show (k : Int) + 3 * (j : Int) + 1 + 1 = (k : Int) + 3 * (j : Int) + 2 by omega]; exact hb1
        have hb4 : (((k : Int) + 3 * (j : Int) + 1 + 1) % 3 == 0) = b := by rw [show (k : Int) + 3 * (j : Int) + 1 + 1 = (k : Int) + 3 * (j : Int) + 2 by omega]; exact hb2
        have Hset : Hid (OFI (w2.setCell ⟨g, j * 3 + 2, none⟩ (.bool b)) lo (.slice (some ⟨g, 0, none⟩) xs.length cap) (mkdFI k xs (j + 1))) := Lib.hid (by
          have h3 := hown3.m2 j b (by rw [List.length_set, List.length_set, Hlen.out]; exact hlt)
          rw [List.set_set, List.getElem_set_self, List.set_set, List.getElem_set_self] at h3
          rw [← mkdFI_step k xs j hlt, mark3, ← hb]
          exact h3)
        have Hgr2 : Hid (w.grownBy (w2.setCell ⟨g, j * 3 + 2, none⟩ (.bool b)) (some g)) := Lib.hid (grown_trans HG2.out (grown_set _ _ _ _))
        clear hown3 hb
        go_wp2
        go_roundw
        case rel => exact ⟨j + 1, by omega, by go_num, by go_num, Hset.out, Hgr2.out⟩
        case measure => simp [intOf]; omega
      · obtain rfl : j = xs.length := by omega
        have Hend : Hid (OFI wr lo (.slice (some ⟨g, 0, none⟩) xs.length cap) (marksFI k xs.length)) := Lib.hid (mkdFI_end k xs ▸ hown)
        clear hown
        go_wp2
        go_ret
        exact ⟨rfl, Hend.out, Hgr.out⟩
set_option maxHeartbeats 1000000 in
set_option maxRecDepth 100000 in
theorem heldFI_any {w : World} {lo n : Nat} {v : Value} (k : Nat) (h : OFI w lo v (marksFI k n)) (h1 : 1 ≤ k) (hk : k + 3 * n ≤ 8000000) :
    Calls Try.prog 46 #[v, .int .i64 (k : Int)] w (GivesB (.int .i64 ((k + 3 * n : Nat) : Int)) w) := by
  have H := Lib.hid h
  have Hl := Lib.hid (marksFI_length k n)
  rcases h.sl with ⟨rfl, h0⟩ | ⟨g, cap, rfl, hlo, hg, hn, hm⟩
  · have hn0 : n = 0 := by have := congrArg List.length h0; rw [marksFI_length] at this; simpa using this
    subst hn0
    clear h h0
    go_enter Try.func46, Try.ntmps46
    go_wp2
    go_loop [1, 5] (fun c i => i = .int .i64 0 ∧ c = .int .i64 (k : Int)) (fun _ _ => 0)
    case atStart => exact ⟨rfl, rfl⟩
    case round =>
      obtain ⟨rfl, rfl⟩ := hrel
      go_wp2
      go_ret
      exact ⟨rfl, Below.refl _ _⟩
  · unfold maxLen at hm
    rw [marksFI_length] at hn ⊢
    clear h
    go_enter Try.func46, Try.ntmps46
    go_wp2
    go_loopw [1, 5] (fun c i wr => ∃ j : Nat, j ≤ n ∧ i = .int .i64 (j : Int) ∧ c = .int .i64 ((k : Int) + 3 * (j : Int)) ∧ Below w.heap.size w wr) (fun _ i _ => n - (intOf i).toNat)
    case atStart => exact ⟨0, Nat.zero_le _, rfl, by go_num, Below.refl _ _⟩
    case round =>
      obtain ⟨j, hj, rfl, rfl, hbel⟩ := hrel
      have Hbel := Lib.hid hbel
      by_cases hlt : j < n
      · have h2 := H.out.cell j (by rw [Hl.out]; exact hlt)
        rw [marksFI_at, mark3] at h2
        have q1 := (hbel.cell (p := ⟨g, j * 3, none⟩) hg).trans h2.1
        have q2 := (hbel.cell (p := ⟨g, j * 3 + 1, none⟩) hg).trans h2.2.1
        have q3 := (hbel.cell (p := ⟨g, j * 3 + 2, none⟩) hg).trans h2.2.2
        obtain ⟨b, hb⟩ : ∃ b : Bool, b = decide (((k : Int) + 3 * (j : Int) + 2) % 3 = 0) := ⟨_, rfl⟩
        have hb1 : (((k : Int) + 3 * (j : Int) + 2).tmod 3 == 0) = b := by rw [hb]; exact (bool3 _ (by omega)).1
        have hb2 : (((k : Int) + 3 * (j : Int) + 2) % 3 == 0) = b := by rw [hb]; exact (bool3 _ (by omega)).2
        have hb3 : (((k : Int) + 3 * (j : Int) + 1 + 1).tmod 3 == 0) = b := by rw [show (k : Int) + 3 * (j : Int) + 1 + 1 = (k : Int) + 3 * (j : Int) + 2 by omega]; exact hb1
        have hb4 : (((k : Int) + 3 * (j : Int) + 1 + 1) % 3 == 0) = b := by rw [show (k : Int) + 3 * (j : Int) + 1 + 1 = (k : Int) + 3 * (j : Int) + 2 by omega]; exact hb2
        have hbb : (b != b) = false := by cases b <;> rfl
        have q3' : wr.cell? ⟨g, j * 3 + 2, none⟩ = some (.bool b) := by rw [hb]; exact q3
        clear hbel h2 q3 hb
        go_wp2_with fail
        go_roundw
        case rel => exact ⟨j + 1, by omega, by go_num, by go_num, Hbel.out⟩
        case measure => simp [intOf]; omega
      · obtain rfl : j = n := by omega
        clear hbel
        go_wp2
        go_ret
        exact ⟨rfl, Hbel.out⟩
end Go.Proofs.Ytmddgncidgdglaa
