/- Contracts of the laws' functions that mark and hold lists of pages. No statement is proved here. -/
import Derived.Test.YtlickjmdlooapaaPag
import Derived.Test.YtlickjmdlooapaaMrU
namespace Go.Proofs.Ytlickjmdlooapaa
open Go.RowKit
set_option linter.unusedVariables false
theorem OG.set0 {w : World} {lo g cap n : Nat} {ps : List Pt} (h : OG w lo (.slice (some ⟨g, 0, none⟩) n cap) ps) (j : Nat) (x : Int) (hj : j < ps.length) : OG (w.setCell ⟨g, j * 2, none⟩ (.int .i64 x)) lo (.slice (some ⟨g, 0, none⟩) n cap) (ps.set j (x, ps[j].2)) := by
  unfold OG
  rw [flatP_set0 ps j x hj, List.length_set]
  exact own_set h (by rw [flatP_len]; omega)
theorem OG.set1 {w : World} {lo g cap n : Nat} {ps : List Pt} (h : OG w lo (.slice (some ⟨g, 0, none⟩) n cap) ps) (j : Nat) (s : ByteArray) (hj : j < ps.length) : OG (w.setCell ⟨g, j * 2 + 1, none⟩ (.string s)) lo (.slice (some ⟨g, 0, none⟩) n cap) (ps.set j (ps[j].1, s)) := by
  unfold OG
  rw [flatP_set1 ps j s hj, List.length_set]
  exact own_set h (by rw [flatP_len]; omega)
set_option maxHeartbeats 1000000 in
theorem markG_any {w : World} {lo : Nat} {v : Value} {xs : List Pt} (h : OG w lo v xs) (k : Nat) (h1 : 1 ≤ k) (hk : k + 2 * xs.length ≤ 8000000) :
    Calls Try.prog 100 #[v, .int .i64 (k : Int)] w fun e w' => e = .returned (.int .i64 ((k + 2 * xs.length : Nat) : Int)) ∧ OG w' lo v (marksU k xs.length) ∧ w.grownBy w' v.ownBlock := by
  have H := Lib.hid h
  rcases h.sl with ⟨rfl, rfl⟩ | ⟨g, cap, rfl, hlo, hg, hn, hm⟩
  · go_enter Try.func100, Try.ntmps100
    go_wp2
    go_loop [1, 5] (fun c i => i = .int .i64 0 ∧ c = .int .i64 (k : Int)) (fun _ _ => 0)
    case atStart => exact ⟨rfl, rfl⟩
    case round =>
      obtain ⟨rfl, rfl⟩ := hrel
      go_wp2
      go_ret
      exact ⟨rfl, H.out, grown_refl _ _⟩
  · unfold maxLen at hm
    clear h
    go_enter Try.func100, Try.ntmps100
    go_wp2
    go_loopw [1, 5] (fun c i wr => ∃ j : Nat, j ≤ xs.length ∧ i = .int .i64 (j : Int) ∧ c = .int .i64 ((k : Int) + 2 * (j : Int)) ∧ OG wr lo (.slice (some ⟨g, 0, none⟩) xs.length cap) (mkdU k xs j) ∧ w.grownBy wr (some g)) (fun _ i _ => xs.length - (intOf i).toNat)
    case atStart => exact ⟨0, Nat.zero_le _, rfl, rfl, H.out, grown_refl _ _⟩
    case round =>
      obtain ⟨j, hj, rfl, rfl, hown, hgr⟩ := hrel
      have Hown := Lib.hid hown; have Hgr := Lib.hid hgr
      clear hgr
      by_cases hlt : j < xs.length
      · have Hlen := Lib.hid (mkdU_length k xs j hj)
        have hu := (hown.cell j (by rw [Hlen.out]; exact hlt)).1
        have hfz := own_frozen hown (j * 2)
        have HO1 : Hid (OG (wr.setCell ⟨g, j * 2, none⟩ (.int .i64 ((k : Int) + 2 * (j : Int)))) lo (.slice (some ⟨g, 0, none⟩) xs.length cap) ((mkdU k xs j).set j (((k : Int) + 2 * (j : Int)), ((mkdU k xs j)[j]'(by rw [Hlen.out]; exact hlt)).2))) := Lib.hid (hown.set0 j _ (by rw [Hlen.out]; exact hlt))
        have HG1 : Hid (w.grownBy (wr.setCell ⟨g, j * 2, none⟩ (.int .i64 ((k : Int) + 2 * (j : Int)))) (some g)) := Lib.hid (grown_trans Hgr.out (grown_set _ _ _ _))
        clear hown
        go_wp2_with fail
        clear hu hfz
        generalize (wr.setCell ⟨g, j * 2, none⟩ (.int .i64 ((k : Int) + 2 * (j : Int)))) = V1 at *
        refine (markText_i (k := k + 2 * j + 1) (by omega) (by omega) (by omega) _).mono ?_
        rintro e w1 ⟨rfl, hb1⟩
        have hown1 := own_bel HO1.out hb1
        have hown2 : OG w1 lo (.slice (some ⟨g, 0, none⟩) xs.length cap) ((mkdU k xs j).set j (((k : Int) + 2 * (j : Int)), ((mkdU k xs j)[j]'(by rw [Hlen.out]; exact hlt)).2)) := hown1
        have hu := (hown2.cell j (by rw [List.length_set, Hlen.out]; exact hlt)).2
        have hfz := own_frozen hown1 (j * 2 + 1)
        have Hset : Hid (OG (w1.setCell ⟨g, j * 2 + 1, none⟩ (.string (mT (k + 2 * j + 1)))) lo (.slice (some ⟨g, 0, none⟩) xs.length cap) (mkdU k xs (j + 1))) := Lib.hid (by
          have h3 := hown2.set1 j (mT (k + 2 * j + 1)) (by rw [List.length_set, Hlen.out]; exact hlt)
          rw [List.set_set, List.getElem_set_self] at h3
          rw [← mkdU_step k xs j hlt]
          exact h3)
        have Hgr2 : Hid (w.grownBy (w1.setCell ⟨g, j * 2 + 1, none⟩ (.string (mT (k + 2 * j + 1)))) (some g)) := Lib.hid (grown_trans HG1.out (grown_trans ⟨hb1.os, hb1.tape, hb1.output, hb1.size, fun q hq _ => hb1.block q hq⟩ (grown_set _ _ _ _)))
        clear hown1 hown2 hb1
        go_wp2
        go_roundw
        case rel => exact ⟨j + 1, by omega, by go_num, by go_num, Hset.out, Hgr2.out⟩
        case measure => simp [intOf]; omega
      · obtain rfl : j = xs.length := by omega
        have Hend : Hid (OG wr lo (.slice (some ⟨g, 0, none⟩) xs.length cap) (marksU k xs.length)) := Lib.hid (mkdU_end k xs ▸ hown)
        clear hown
        go_wp2
        go_ret
        exact ⟨rfl, Hend.out, Hgr.out⟩
end Go.Proofs.Ytlickjmdlooapaa
