/- Contracts of the laws' functions that mark and hold lists of pairs. No statement is proved here. -/
import Derived.Test.YtplfnlalmcpcaaaGreatMrT
namespace Go.Proofs.YtplfnlalmcpcaaaGreat
open Go.RowKit
set_option linter.unusedVariables false
theorem markText_i {k : Nat} {z : Int} (hz : z = (k : Int)) (h1 : 1 ≤ k) (h2 : k ≤ 8000000) (w : World) : Calls Tryz.prog 105 #[.int .i64 z] w (GivesB (.string (mT k)) w) := by subst hz; exact markText_any k h1 h2 w
theorem flatP_set0 : ∀ (ps : List Pt) (j : Nat) (x : Int) (h : j < ps.length), flatP (ps.set j (x, ps[j].2)) = (flatP ps).set (j * 2) (.int .i64 x)
  | p :: ps, 0, x, _ => rfl
  | p :: ps, j + 1, x, h => by
    have e1 : (j + 1) * 2 = j * 2 + 2 := by omega
    rw [e1]
    simp only [List.set_cons_succ, flatP, List.getElem_cons_succ]
    rw [flatP_set0 ps j x (Nat.lt_of_succ_lt_succ h)]
theorem flatP_set1 : ∀ (ps : List Pt) (j : Nat) (s : ByteArray) (h : j < ps.length), flatP (ps.set j (ps[j].1, s)) = (flatP ps).set (j * 2 + 1) (.string s)
  | p :: ps, 0, x, _ => rfl
  | p :: ps, j + 1, x, h => by
    have e1 : (j + 1) * 2 + 1 = j * 2 + 1 + 2 := by omega
    rw [e1]
    simp only [List.set_cons_succ, flatP, List.getElem_cons_succ]
    rw [flatP_set1 ps j x (Nat.lt_of_succ_lt_succ h)]
theorem own_set {w : World} {lo sz n g c m q : Nat} {T : TypeId} {vs : List Value} {u : Value} (h : w.ownsRow lo T sz (.slice (some ⟨g, 0, none⟩) m c) n vs) (hq : q < vs.length) : (w.setCell ⟨g, q, none⟩ u).ownsRow lo T sz (.slice (some ⟨g, 0, none⟩) m c) n (vs.set q u) := by
  rcases h.2 with ⟨h0, _⟩ | ⟨g', cap', cur, he, hb, hg, hnc, hm, hcs, htake⟩
  · cases h0
  · cases he
    refine ⟨by rw [List.length_set]; exact h.1, .inr ⟨g, c, cur.setIfInBounds q u, rfl, hb, heap_setCell_same _ _ _ _ _ _ hg, hnc, hm, by simpa using hcs, ?_⟩⟩
    rw [Array.toList_setIfInBounds, List.take_set, htake]
theorem OU.set0 {w : World} {lo g cap n : Nat} {ps : List Pt} (h : OU w lo (.slice (some ⟨g, 0, none⟩) n cap) ps) (j : Nat) (x : Int) (hj : j < ps.length) : OU (w.setCell ⟨g, j * 2, none⟩ (.int .i64 x)) lo (.slice (some ⟨g, 0, none⟩) n cap) (ps.set j (x, ps[j].2)) := by
  unfold OU
  rw [flatP_set0 ps j x hj, List.length_set]
  exact own_set h (by rw [flatP_len]; omega)
theorem OU.set1 {w : World} {lo g cap n : Nat} {ps : List Pt} (h : OU w lo (.slice (some ⟨g, 0, none⟩) n cap) ps) (j : Nat) (s : ByteArray) (hj : j < ps.length) : OU (w.setCell ⟨g, j * 2 + 1, none⟩ (.string s)) lo (.slice (some ⟨g, 0, none⟩) n cap) (ps.set j (ps[j].1, s)) := by
  unfold OU
  rw [flatP_set1 ps j s hj, List.length_set]
  exact own_set h (by rw [flatP_len]; omega)
def marksU (k n : Nat) : List Pt := (List.range n).map fun (i : Nat) => (((k : Int) + 2 * (i : Int)), mT (k + 2 * i + 1))
theorem marksU_length (k n : Nat) : (marksU k n).length = n := by simp [marksU]
theorem marksU_at (k n i : Nat) (h : i < (marksU k n).length) : (marksU k n)[i] = (((k : Int) + 2 * (i : Int)), mT (k + 2 * i + 1)) := by simp [marksU]
def mkdU (k : Nat) (xs : List Pt) (j : Nat) : List Pt := marksU k j ++ xs.drop j
theorem mkdU_length (k : Nat) (xs : List Pt) (j : Nat) (h : j ≤ xs.length) : (mkdU k xs j).length = xs.length := by
  unfold mkdU; rw [List.length_append, marksU_length, List.length_drop]; omega
theorem mkdU_step (k : Nat) (xs : List Pt) (j : Nat) (h : j < xs.length) : (mkdU k xs j).set j (((k : Int) + 2 * (j : Int)), mT (k + 2 * j + 1)) = mkdU k xs (j + 1) := by
  unfold mkdU
  rw [List.set_append, if_neg (by rw [marksU_length]; omega), marksU_length, Nat.sub_self]
  rw [List.drop_eq_getElem_cons h, List.set_cons_zero]
  simp [marksU, List.range_succ]
theorem mkdU_end (k : Nat) (xs : List Pt) : mkdU k xs xs.length = marksU k xs.length := by
  unfold mkdU; simp
set_option maxHeartbeats 1000000 in
theorem markU_any {w : World} {lo : Nat} {v : Value} {xs : List Pt} (h : OU w lo v xs) (k : Nat) (h1 : 1 ≤ k) (hk : k + 2 * xs.length ≤ 8000000) :
    Calls Tryz.prog 104 #[v, .int .i64 (k : Int)] w fun e w' => e = .returned (.int .i64 ((k + 2 * xs.length : Nat) : Int)) ∧ OU w' lo v (marksU k xs.length) ∧ w.grownBy w' v.ownBlock := by
  have H := Lib.hid h
  rcases h.sl with ⟨rfl, rfl⟩ | ⟨g, cap, rfl, hlo, hg, hn, hm⟩
  · go_enter Tryz.func104, Tryz.ntmps104
    go_wp2
    go_loop [1, 5] (fun c i => i = .int .i64 0 ∧ c = .int .i64 (k : Int)) (fun _ _ => 0)
    case atStart => exact ⟨rfl, rfl⟩
    case round =>
      obtain ⟨rfl, rfl⟩ := hrel
      go_wp2
      go_ret
      exact ⟨rfl, H.out, grown_refl _ _⟩
  · unfold maxLen at hm
    clear h
    go_enter Tryz.func104, Tryz.ntmps104
    go_wp2
    go_loopw [1, 5] (fun c i wr => ∃ j : Nat, j ≤ xs.length ∧ i = .int .i64 (j : Int) ∧ c = .int .i64 ((k : Int) + 2 * (j : Int)) ∧ OU wr lo (.slice (some ⟨g, 0, none⟩) xs.length cap) (mkdU k xs j) ∧ w.grownBy wr (some g)) (fun _ i _ => xs.length - (intOf i).toNat)
    case atStart => exact ⟨0, Nat.zero_le _, rfl, rfl, H.out, grown_refl _ _⟩
    case round =>
      obtain ⟨j, hj, rfl, rfl, hown, hgr⟩ := hrel
      have Hown := Lib.hid hown; have Hgr := Lib.hid hgr
      clear hgr
      by_cases hlt : j < xs.length
      · have Hlen := Lib.hid (mkdU_length k xs j hj)
        have hu := (hown.cell j (by rw [Hlen.out]; exact hlt)).1
        have hfz := own_frozen hown (j * 2)
        have HO1 : Hid (OU (wr.setCell ⟨g, j * 2, none⟩ (.int .i64 ((k : Int) + 2 * (j : Int)))) lo (.slice (some ⟨g, 0, none⟩) xs.length cap) ((mkdU k xs j).set j (((k : Int) + 2 * (j : Int)), ((mkdU k xs j)[j]'(by rw [Hlen.out]; exact hlt)).2))) := Lib.hid (hown.set0 j _ (by rw [Hlen.out]; exact hlt))
        have HG1 : Hid (w.grownBy (wr.setCell ⟨g, j * 2, none⟩ (.int .i64 ((k : Int) + 2 * (j : Int)))) (some g)) := Lib.hid (grown_trans Hgr.out (grown_set _ _ _ _))
        clear hown
        go_wp2_with fail
        clear hu hfz
        generalize (wr.setCell ⟨g, j * 2, none⟩ (.int .i64 ((k : Int) + 2 * (j : Int)))) = V1 at *
        refine (markText_i (k := k + 2 * j + 1) (by omega) (by omega) (by omega) _).mono ?_
        rintro e w1 ⟨rfl, hb1⟩
        have hown1 := own_bel HO1.out hb1
        have hown2 : OU w1 lo (.slice (some ⟨g, 0, none⟩) xs.length cap) ((mkdU k xs j).set j (((k : Int) + 2 * (j : Int)), ((mkdU k xs j)[j]'(by rw [Hlen.out]; exact hlt)).2)) := hown1
        have hu := (hown2.cell j (by rw [List.length_set, Hlen.out]; exact hlt)).2
        have hfz := own_frozen hown1 (j * 2 + 1)
        have Hset : Hid (OU (w1.setCell ⟨g, j * 2 + 1, none⟩ (.string (mT (k + 2 * j + 1)))) lo (.slice (some ⟨g, 0, none⟩) xs.length cap) (mkdU k xs (j + 1))) := Lib.hid (by
          have h3 := hown2.set1 j (mT (k + 2 * j + 1)) (by rw [List.length_set, Hlen.out]; exact hlt)
          rw [List.set_set, List.getElem_set_self] at h3
          rw [← mkdU_step k xs j hlt]
          exact h3)
        have Hgr2 : Hid (w.grownBy (w1.setCell ⟨g, j * 2 + 1, none⟩ (.string (mT (k + 2 * j + 1)))) (some g)) := Lib.hid (grown_trans HG1.out (grown_trans ⟨hb1.os, hb1.tape, hb1.output, hb1.size, fun q hq _ => hb1.block q hq⟩ (grown_set _ _ _ _)))
        clear hown1 hown2 hb1
        go_wp2
        go_roundw
        case rel => exact ⟨j + 1, by omega, by go_num, by go_num, Hset.out, Hgr2.out⟩
        case measure => simp [intOf]; omega
      · obtain rfl : j = xs.length := by omega
        have Hend : Hid (OU wr lo (.slice (some ⟨g, 0, none⟩) xs.length cap) (marksU k xs.length)) := Lib.hid (mkdU_end k xs ▸ hown)
        clear hown
        go_wp2
        go_ret
        exact ⟨rfl, Hend.out, Hgr.out⟩
set_option maxHeartbeats 1000000 in
set_option maxRecDepth 100000 in
theorem heldU_any {w : World} {lo n : Nat} {v : Value} (k : Nat) (h : OU w lo v (marksU k n)) (h1 : 1 ≤ k) (hk : k + 2 * n ≤ 8000000) :
    Calls Tryz.prog 107 #[v, .int .i64 (k : Int)] w (GivesB (.int .i64 ((k + 2 * n : Nat) : Int)) w) := by
  have H := Lib.hid h
  have Hl := Lib.hid (marksU_length k n)
  rcases h.sl with ⟨rfl, h0⟩ | ⟨g, cap, rfl, hlo, hg, hn, hm⟩
  · have hn0 : n = 0 := by have := congrArg List.length h0; rw [marksU_length] at this; simpa using this
    subst hn0
    clear h h0
    go_enter Tryz.func107, Tryz.ntmps107
    go_wp2
    go_loop [1, 5] (fun c i => i = .int .i64 0 ∧ c = .int .i64 (k : Int)) (fun _ _ => 0)
    case atStart => exact ⟨rfl, rfl⟩
    case round =>
      obtain ⟨rfl, rfl⟩ := hrel
      go_wp2
      go_ret
      exact ⟨rfl, Below.refl _ _⟩
  · unfold maxLen at hm
    rw [marksU_length] at hn ⊢
    clear h
    go_enter Tryz.func107, Tryz.ntmps107
    go_wp2
    go_loopw [1, 5] (fun c i wr => ∃ j : Nat, j ≤ n ∧ i = .int .i64 (j : Int) ∧ c = .int .i64 ((k : Int) + 2 * (j : Int)) ∧ Below w.heap.size w wr) (fun _ i _ => n - (intOf i).toNat)
    case atStart => exact ⟨0, Nat.zero_le _, rfl, rfl, Below.refl _ _⟩
    case round =>
      obtain ⟨j, hj, rfl, rfl, hbel⟩ := hrel
      have Hbel := Lib.hid hbel
      by_cases hlt : j < n
      · have HS : Hid (∀ W, Below w.heap.size w W → W.cell? ⟨g, j * 2, none⟩ = some (.int .i64 ((k : Int) + 2 * (j : Int))) ∧ W.cell? ⟨g, j * 2 + 1, none⟩ = some (.string (mT (k + 2 * j + 1)))) := Lib.hid (fun W hW => by
          have h2 := H.out.cell j (by rw [Hl.out]; exact hlt)
          rw [marksU_at] at h2
          exact ⟨(hW.cell (p := ⟨g, j * 2, none⟩) hg).trans h2.1, (hW.cell (p := ⟨g, j * 2 + 1, none⟩) hg).trans h2.2⟩)
        have q1 := (HS.out wr hbel).1
        clear hbel
        go_wp2
        clear q1
        go_region_held3 (fun W => W.cell? ⟨g, j * 2 + 1, none⟩ = some (.string (mT (k + 2 * j + 1)))) (exact (HS.out _ (by first | exact kb1 | exact Hbel.out.drew | exact Hbel.out)).2)
          ((first | (go_at_call 105; go_fit (markText_i (k := k + 2 * j + 1) (by omega) (by omega) (by omega) _); rintro e u1 ⟨rfl, ga⟩; have kb1 : Below w.heap.size w u1 := Hbel.out.drew.trans (ga.mono Hbel.out.size))))
        try simp only [Exit.then]
        have Hkb := Lib.hid kb1
        clear kb1 ga
        go_wp2
        go_roundw
        case rel => exact ⟨j + 1, by omega, by go_num, by go_num, Hkb.out⟩
        case measure => simp [intOf]; omega
      · obtain rfl : j = n := by omega
        clear hbel
        go_wp2
        go_ret
        exact ⟨rfl, Hbel.out⟩
end Go.Proofs.YtplfnlalmcpcaaaGreat
