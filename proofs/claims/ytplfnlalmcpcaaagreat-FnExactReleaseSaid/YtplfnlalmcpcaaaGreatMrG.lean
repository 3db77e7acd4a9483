/- Contracts of the laws' functions that mark and hold lists of pages. No statement is proved here. -/
import Derived.Test.YtplfnlalmcpcaaaGreatPag
import Derived.Test.YtplfnlalmcpcaaaGreatMrU
namespace Go.Proofs.YtplfnlalmcpcaaaGreat
open Go.RowKit
set_option linter.unusedVariables false
theorem OG.set0 {w : World} {lo g cap n : Nat} {ps : List Pt} (h : OG w lo (.slice (some ⟨g, 0, none⟩) n cap) ps) (j : Nat) (x : Int) (hj : j < ps.length) : OG (w.setCell ⟨g, j * 2, none⟩ (.int .i64 x)) lo (.slice (some ⟨g, 0, none⟩) n cap) (ps.set j (x, ps[j].2)) := by
  unfold OG
  rw [flatP_set0 ps j x hj, List.length_set]
  exact own_set h (by rw [flatP_len]; omega)
theorem OG.set1 {w : World} {lo g cap n : Nat} {ps : List Pt} (h : OG w lo (.slice (some ⟨g, 0, none⟩) n cap) ps) (j : Nat) (s : ByteArray) (hj : j < ps.length) : OG (w.setCell ⟨g, j * 2 + 1, none⟩ (.string s)) lo (.slice (some ⟨g, 0, none⟩) n cap) (ps.set j (ps[j].1, s)) := by
  unfold OG
  rw [flatP_set1 ps j s hj, List.length_set]
  exact own_set h (by rw [flatP_len]; omega)
set_option maxHeartbeats 1000000 in
theorem markG_any {w : World} {lo : Nat} {v : Value} {xs : List Pt} (h : OG w lo v xs) (k : Nat) (h1 : 1 ≤ k) (hk : k + 2 * xs.length ≤ 8000000) :
    Calls Tryz.prog 51 #[v, .int .i64 (k : Int)] w fun e w' => e = .returned (.int .i64 ((k + 2 * xs.length : Nat) : Int)) ∧ OG w' lo v (marksU k xs.length) ∧ w.grownBy w' v.ownBlock := by
  have H := Lib.hid h
  rcases h.sl with ⟨rfl, rfl⟩ | ⟨g, cap, rfl, hlo, hg, hn, hm⟩
  · go_enter Tryz.func51, Tryz.ntmps51
    go_wp2
    go_loop [1, 5] (fun c i => i = .int .i64 0 ∧ c = .int .i64 (k : Int)) (fun _ _ => 0)
    case atStart => exact ⟨rfl, rfl⟩
    case round =>
      obtain ⟨rfl, rfl⟩ := hrel
      go_wp2
      go_ret
      exact ⟨rfl, H.out, grown_refl _ _⟩
  · unfold maxLen at hm
    clear h
    go_enter Tryz.func51, Tryz.ntmps51
    go_wp2
    go_loopw [1, 5] (fun c i wr => ∃ j : Nat, j ≤ xs.length ∧ i = .int .i64 (j : Int) ∧ c = .int .i64 ((k : Int) + 2 * (j : Int)) ∧ OG wr lo (.slice (some ⟨g, 0, none⟩) xs.length cap) (mkdU k xs j) ∧ w.grownBy wr (some g)) (fun _ i _ => xs.length - (intOf i).toNat)
    case atStart => exact ⟨0, Nat.zero_le _, rfl, rfl, H.out, grown_refl _ _⟩
    case round =>
      obtain ⟨j, hj, rfl, rfl, hown, hgr⟩ := hrel
      have Hown := Lib.hid hown; have Hgr := Lib.hid hgr
      clear hgr
      by_cases hlt : j < xs.length
      · have Hlen := Lib.hid (mkdU_length k xs j hj)
        have hu := (hown.cell j (by rw [Hlen.out]; exact hlt)).1
        have hfz := own_frozen hown (j * 2)
        have HO1 : Hid (OG (wr.setCell ⟨g, j * 2, none⟩ (.int .i64 ((k : Int) + 2 * (j : Int)))) lo (.slice (some ⟨g, 0, none⟩) xs.length cap) ((mkdU k xs j).set j (((k : Int) + 2 * (j : Int)), ((mkdU k xs j)[j]'(by rw [Hlen.out]; exact hlt)).2))) := Lib.hid (hown.set0 j _ (by rw [Hlen.out]; exact hlt))
        have HG1 : Hid (w.grownBy (wr.setCell ⟨g, j * 2, none⟩ (.int .i64 ((k : Int) + 2 * (j : Int)))) (some g)) := Lib.hid (grown_trans Hgr.out (grown_set _ _ _ _))
        clear hown
        go_wp2_with fail
        clear hu hfz
        generalize (wr.setCell ⟨g, j * 2, none⟩ (.int .i64 ((k : Int) + 2 * (j : Int)))) = V1 at *
        refine (markText_i (k := k + 2 * j + 1) (by omega) (by omega) (by omega) _).mono ?_
        rintro e w1 ⟨rfl, hb1⟩
        have hown1 := own_bel HO1.out hb1
        have hown2 : OG w1 lo (.slice (some ⟨g, 0, none⟩) xs.length cap) ((mkdU k xs j).set j (((k : Int) + 2 * (j : Int)), ((mkdU k xs j)[j]'(by rw [Hlen.out]; exact hlt)).2)) := hown1
        have hu := (hown2.cell j (by rw [List.length_set, Hlen.out]; exact hlt)).2
        have hfz := own_frozen hown1 (j * 2 + 1)
        have Hset : Hid (OG (w1.setCell ⟨g, j * 2 + 1, none⟩ (.string (mT (k + 2 * j + 1)))) lo (.slice (some ⟨g, 0, none⟩) xs.length cap) (mkdU k xs (j + 1))) := Lib.hid (by
          have h3 := hown2.set1 j (mT (k + 2 * j + 1)) (by rw [List.length_set, Hlen.out]; exact hlt)
          rw [List.set_set, List.getElem_set_self] at h3
          rw [← mkdU_step k xs j hlt]
          exact h3)
        have Hgr2 : Hid (w.grownBy (w1.setCell ⟨g, j * 2 + 1, none⟩ (.string (mT (k + 2 * j + 1)))) (some g)) := Lib.hid (grown_trans HG1.out (grown_trans ⟨hb1.os, hb1.tape, hb1.output, hb1.size, fun q hq _ => hb1.block q hq⟩ (grown_set _ _ _ _)))
        clear hown1 hown2 hb1
        go_wp2
        go_roundw
        case rel => exact ⟨j + 1, by omega, by go_num, by go_num, Hset.out, Hgr2.out⟩
        case measure => simp [intOf]; omega
      · obtain rfl : j = xs.length := by omega
        have Hend : Hid (OG wr lo (.slice (some ⟨g, 0, none⟩) xs.length cap) (marksU k xs.length)) := Lib.hid (mkdU_end k xs ▸ hown)
        clear hown
        go_wp2
        go_ret
        exact ⟨rfl, Hend.out, Hgr.out⟩
set_option maxHeartbeats 1000000 in
set_option maxRecDepth 100000 in
theorem heldG_any {w : World} {lo n : Nat} {v : Value} (k : Nat) (h : OG w lo v (marksU k n)) (h1 : 1 ≤ k) (hk : k + 2 * n ≤ 8000000) :
    Calls Tryz.prog 53 #[v, .int .i64 (k : Int)] w (GivesB (.int .i64 ((k + 2 * n : Nat) : Int)) w) := by
  have H := Lib.hid h
  have Hl := Lib.hid (marksU_length k n)
  rcases h.sl with ⟨rfl, h0⟩ | ⟨g, cap, rfl, hlo, hg, hn, hm⟩
  · have hn0 : n = 0 := by have := congrArg List.length h0; rw [marksU_length] at this; simpa using this
    subst hn0
    clear h h0
    go_enter Tryz.func53, Tryz.ntmps53
    go_wp2
    go_loop [1, 5] (fun c i => i = .int .i64 0 ∧ c = .int .i64 (k : Int)) (fun _ _ => 0)
    case atStart => exact ⟨rfl, rfl⟩
    case round =>
      obtain ⟨rfl, rfl⟩ := hrel
      go_wp2
      go_ret
      exact ⟨rfl, Below.refl _ _⟩
  · unfold maxLen at hm
    rw [marksU_length] at hn ⊢
    clear h
    go_enter Tryz.func53, Tryz.ntmps53
    go_wp2
    go_loopw [1, 5] (fun c i wr => ∃ j : Nat, j ≤ n ∧ i = .int .i64 (j : Int) ∧ c = .int .i64 ((k : Int) + 2 * (j : Int)) ∧ Below w.heap.size w wr) (fun _ i _ => n - (intOf i).toNat)
    case atStart => exact ⟨0, Nat.zero_le _, rfl, rfl, Below.refl _ _⟩
    case round =>
      obtain ⟨j, hj, rfl, rfl, hbel⟩ := hrel
      have Hbel := Lib.hid hbel
      by_cases hlt : j < n
      · have HS : Hid (∀ W, Below w.heap.size w W → W.cell? ⟨g, j * 2, none⟩ = some (.int .i64 ((k : Int) + 2 * (j : Int))) ∧ W.cell? ⟨g, j * 2 + 1, none⟩ = some (.string (mT (k + 2 * j + 1)))) := Lib.hid (fun W hW => by
          have h2 := H.out.cell j (by rw [Hl.out]; exact hlt)
          rw [marksU_at] at h2
          exact ⟨(hW.cell (p := ⟨g, j * 2, none⟩) hg).trans h2.1, (hW.cell (p := ⟨g, j * 2 + 1, none⟩) hg).trans h2.2⟩)
        have q1 := (HS.out wr hbel).1
        clear hbel
        go_wp2
        clear q1
        go_region_held3 (fun W => W.cell? ⟨g, j * 2 + 1, none⟩ = some (.string (mT (k + 2 * j + 1)))) (exact (HS.out _ (by first | exact kb1 | exact Hbel.out.drew | exact Hbel.out)).2)
          ((first | (go_at_call 105; go_fit (markText_i (k := k + 2 * j + 1) (by omega) (by omega) (by omega) _); rintro e u1 ⟨rfl, ga⟩; have kb1 : Below w.heap.size w u1 := Hbel.out.drew.trans (ga.mono Hbel.out.size))))
        try simp only [Exit.then]
        have Hkb := Lib.hid kb1
        clear kb1 ga
        go_wp2
        go_roundw
        case rel => exact ⟨j + 1, by omega, by go_num, by go_num, Hkb.out⟩
        case measure => simp [intOf]; omega
      · obtain rfl : j = n := by omega
        clear hbel
        go_wp2
        go_ret
        exact ⟨rfl, Hbel.out⟩
end Go.Proofs.YtplfnlalmcpcaaaGreat
