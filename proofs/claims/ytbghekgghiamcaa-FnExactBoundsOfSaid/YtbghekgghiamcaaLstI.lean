/- Contract of the program's function that checks a list of boxes. No statement is proved here. -/
import Derived.Test.YtbghekgghiamcaaLst
namespace Go.Proofs.Ytbghekgghiamcaa
open Go.RowKit
set_option linter.unusedVariables false
set_option maxHeartbeats 4000000 in
set_option maxRecDepth 100000 in
theorem validBoxes_any {B : Nat} {w : World} {v : Value} {bs : List Bx} (h : RiB B w v bs) (hB : B ≤ w.heap.size) :
    Calls Try.prog 55 #[v] w (GivesB (.bool (boxesOk bs)) w) := by
  obtain ⟨A, cap, rfl, hl, hc, hx⟩ := h
  have Hx := Lib.hid hx; clear hx
  unfold maxLen at hc
  by_cases h32 : bs.length ≤ 32
  rotate_left
  · have Hf := Lib.hid (boxesOk_long h32)
    have q1 : decide ((32 : Int) < (bs.length : Int)) = true := decide_eq_true (by omega)
    go_enter Try.func55, Try.ntmps55
    go_wp2
    go_ret
    exact ⟨by rw [Hf.out]; rfl, Below.refl _ _⟩
  have q1 : decide ((32 : Int) < (bs.length : Int)) = false := decide_eq_false (by omega)
  have H32 := Lib.hid h32
  generalize hr : boxesOk bs = r
  have Hr := Lib.hid hr; clear hr h32
  go_enter Try.func55, Try.ntmps55
  go_wp2
  clear q1
  go_loopw [10] (fun i wr => ∃ k : Nat, k ≤ bs.length ∧ i = .int .i64 k ∧ Below w.heap.size w wr ∧ allTo (bsP bs) k = true) (fun i _ => bs.length - (intOf i).toNat)
  case atStart => exact ⟨0, Nat.zero_le _, rfl, Below.refl _ _, allTo_zero _⟩
  case round =>
    obtain ⟨k, hk, rfl, hbel, hall⟩ := hrel
    have Hall := Lib.hid hall; have Hbel := Lib.hid hbel
    clear hall
    by_cases hlt : k < bs.length
    · have hlt0 : 0 < bs.length := by omega
      obtain ⟨b, o, u1, u2, hA, hb, hq1, hq2, hr1, hr2⟩ := Hx.out k hlt
      obtain ⟨b', o', u3, u4, hA', hb', hq3, hq4, hr3, hr4⟩ := Hx.out 0 hlt0
      have e0 : b' = b ∧ o' = o := by rw [hA] at hA'; injection hA' with h1; injection h1 with h2 h3; exact ⟨h2.symm, h3.symm⟩
      obtain ⟨rfl, rfl⟩ := e0
      subst hA
      clear hA'
      have hs := hbel.size
      have g1 : wr.cell? ⟨b', o' + k * 2, none⟩ = some u1 := by rw [hbel.cell (show b' < _ from by omega)]; exact hq1
      have g2 : wr.cell? ⟨b', o' + k * 2 + 1, none⟩ = some u2 := by rw [hbel.cell (show b' < _ from by omega)]; exact hq2
      have g3 : wr.cell? ⟨b', o', none⟩ = some u3 := by rw [hbel.cell (show b' < _ from by omega)]; simpa using hq3
      have g4 : wr.cell? ⟨b', o' + 1, none⟩ = some u4 := by rw [hbel.cell (show b' < _ from by omega)]; simpa using hq4
      have hr1' := hr1.at hB hbel; have hr2' := hr2.at hB hbel; have Hr3 := Lib.hid (hr3.at hB hbel); have Hr4 := Lib.hid (hr4.at hB hbel)
      have Hp : Hid (bsP bs k = (boxOk bs[k].1 bs[k].2 && decide (bs[k].1.length = bs[0].1.length))) := Lib.hid (by unfold bsP; rw [bxAt_at _ _ hlt, bxAt_at _ _ hlt0])
      have Hk2 := Lib.hid (allTo_succ (bsP bs) k)
      have Hbad : Hid (bsP bs k = false → r = false) := Lib.hid (fun h => by rw [← Hr.out]; exact boxesOk_bad hlt h)
      obtain ⟨E1, e1, rfl, _⟩ := hr1
      obtain ⟨E2, e2, rfl, _⟩ := hr2
      obtain ⟨E3, e3, rfl, _⟩ := hr3
      obtain ⟨E4, e4, rfl, _⟩ := hr4
      have Hw1 : Hid (Below wr.heap.size wr (wr.alloc (.cells #[.slice E1 bs[k].1.length e1, .slice E2 bs[k].2.length e2] 43))) := Lib.hid ((Below.refl _ wr).alloc (Nat.le_refl _) _)
      have Hr1 := Lib.hid (hr1'.at (Nat.le_refl _) Hw1.out); have Hr2 := Lib.hid (hr2'.at (Nat.le_refl _) Hw1.out)
      have HS : Hid (∀ W, Below (wr.alloc (.cells #[.slice E1 bs[k].1.length e1, .slice E2 bs[k].2.length e2] 43)).heap.size (wr.alloc (.cells #[.slice E1 bs[k].1.length e1, .slice E2 bs[k].2.length e2] 43)) W → W.cell? ⟨wr.heap.size, 0, none⟩ = some (.slice E1 bs[k].1.length e1) ∧ W.cell? ⟨wr.heap.size, 1, none⟩ = some (.slice E2 bs[k].2.length e2) ∧ W.cell? ⟨b', o', none⟩ = some (.slice E3 bs[0].1.length e3) ∧ W.cell? ⟨b', o' + 1, none⟩ = some (.slice E4 bs[0].2.length e4)) := Lib.hid (fun W hW => by
        have hbb : b' < wr.heap.size := by omega
        have e : ∀ jj : Nat, W.cell? ⟨b', jj, none⟩ = wr.cell? ⟨b', jj, none⟩ := fun jj => (hW.cell (p := ⟨b', jj, none⟩) (by simp; omega)).trans (Hw1.out.cell (p := ⟨b', jj, none⟩) hbb)
        have e2 : ∀ jj : Nat, W.cell? ⟨wr.heap.size, jj, none⟩ = (wr.alloc (.cells #[.slice E1 bs[k].1.length e1, .slice E2 bs[k].2.length e2] 43)).cell? ⟨wr.heap.size, jj, none⟩ := fun jj => hW.cell (p := ⟨wr.heap.size, jj, none⟩) (by simp)
        refine ⟨?_, ?_, by rw [e]; exact g3, by rw [e]; exact g4⟩
        · rw [e2, cell_of_row _ _ _ _ _ _ (heap_alloc_new wr _)]; rfl
        · rw [e2, cell_of_row _ _ _ _ _ _ (heap_alloc_new wr _)]; rfl)
      have Hgo : Hid (Below w.heap.size w (wr.alloc (.cells #[.slice E1 bs[k].1.length e1, .slice E2 bs[k].2.length e2] 43))) := Lib.hid (Hbel.out.trans (Hw1.out.mono Hbel.out.size))
      clear hq1 hq2 hq3 hq4 hbel g3 g4 hr1' hr2'
      generalize bs[k] = p at *
      generalize bs[0] = q at *
      go_wp2
      clear g1 g2
      generalize (wr.alloc (.cells #[.slice E1 p.1.length e1, .slice E2 p.2.length e2] 43)) = W1 at *
      have Hw0 : Hid (Below W1.heap.size W1 W1.drew) := Lib.hid (Below.refl _ _).drew
      cases hok : boxOk p.1 p.2
      · have Hok := Lib.hid hok
        have Hf := Lib.hid (Hbad.out (by rw [Hp.out, hok]; rfl))
        clear hok Hbad
        refine wp_region_held_drew (S := fun W => W.cell? ⟨wr.heap.size, 0, none⟩ = some (.slice E1 p.1.length e1) ∧ W.cell? ⟨wr.heap.size, 1, none⟩ = some (.slice E2 p.2.length e2) ∧ W.cell? ⟨b', o', none⟩ = some (.slice E3 q.1.length e3) ∧ W.cell? ⟨b', o' + 1, none⟩ = some (.slice E4 q.2.length e4)) (by kernel_rfl) (HS.out _ (Below.refl _ _).drew) (fun hHeld => ?_)
        refine held_yes 0 (some 14) rfl rfl (by kernel_rfl) (by kernel_rfl) (by kernel_rfl) (fun _ _ _ h => h) (by kernel_rfl) hHeld (v := ?_) (fun wz hSw => ?_) ?_
        rotate_left 1
        · (try dsimp only at hSw); go_simp; (try with_reducible rfl)
        try simp only [Act.put, List.setIfInBounds_toArray, List.set_cons_zero, List.set_cons_succ]
        refine wpAnyH_ready (rs := [1]) (by kernel_rfl) (by simp) ?_
        refine AllReadyH.cons rfl (fun K hK => ?_) AllReadyH.nil
        go_simp
        (go_at_call 75; go_fit (implValidBox_is Hok.out (Hr1.out.at (Nat.le_refl _) Hw0.out) (Hr2.out.at (Nat.le_refl _) Hw0.out) (Nat.le_refl _)); rintro e y1 ⟨rfl, g⟩; have kb : Below W1.heap.size W1 y1 := (Below.refl _ _).drew.trans g)
        refine hK.out _ _ (HS.out _ kb) (fun hHeld => ?_)
        clear hK K
        try simp only [Act.put, List.setIfInBounds_toArray, List.set_cons_zero, List.set_cons_succ]
        refine held_yes 2 (some 16) rfl rfl (by kernel_rfl) (by kernel_rfl) (by kernel_rfl) (fun _ _ _ h => h) (by kernel_rfl) hHeld (v := ?_) (fun wz hSw => ?_) ?_
        rotate_left 1
        · (try dsimp only at hSw); go_simp; (try with_reducible rfl)
        try simp only [Act.put, List.setIfInBounds_toArray, List.set_cons_zero, List.set_cons_succ]
        refine held_yes 3 (some 17) rfl rfl (by kernel_rfl) (by kernel_rfl) (by kernel_rfl) (fun _ _ _ h => h) (by kernel_rfl) hHeld (v := ?_) (fun wz hSw => ?_) ?_
        rotate_left 1
        · (try dsimp only at hSw); go_simp; (try with_reducible rfl)
        try simp only [Act.put, List.setIfInBounds_toArray, List.set_cons_zero, List.set_cons_succ]
        refine held_no 4 (some 18) rfl rfl (by kernel_rfl) (by kernel_rfl) (by kernel_rfl) (fun _ _ _ h => h) (by kernel_rfl) hHeld ?_
        try simp only [Act.put, List.setIfInBounds_toArray, List.set_cons_zero, List.set_cons_succ]
        refine held_no 5 (some 19) rfl rfl (by kernel_rfl) (by kernel_rfl) (by kernel_rfl) (fun _ _ _ h => h) (by kernel_rfl) hHeld ?_
        try simp only [Act.put, List.setIfInBounds_toArray, List.set_cons_zero, List.set_cons_succ]
        refine held_no 6 (some 20) rfl rfl (by kernel_rfl) (by kernel_rfl) (by kernel_rfl) (fun _ _ _ h => h) (by kernel_rfl) hHeld ?_
        try simp only [Act.put, List.setIfInBounds_toArray, List.set_cons_zero, List.set_cons_succ]
        refine held_no 7 (some 21) rfl rfl (by kernel_rfl) (by kernel_rfl) (by kernel_rfl) (fun _ _ _ h => h) (by kernel_rfl) hHeld ?_
        try simp only [Act.put, List.setIfInBounds_toArray, List.set_cons_zero, List.set_cons_succ]
        refine held_no 8 (some 22) rfl rfl (by kernel_rfl) (by kernel_rfl) (by kernel_rfl) (fun _ _ _ h => h) (by kernel_rfl) hHeld ?_
        try simp only [Act.put, List.setIfInBounds_toArray, List.set_cons_zero, List.set_cons_succ]
        refine held_no 9 (some 23) rfl rfl (by kernel_rfl) (by kernel_rfl) (by kernel_rfl) (fun _ _ _ h => h) (by kernel_rfl) hHeld ?_
        try simp only [Act.put, List.setIfInBounds_toArray, List.set_cons_zero, List.set_cons_succ]
        refine held_yes 10 (some 24) rfl rfl (by kernel_rfl) (by kernel_rfl) (by kernel_rfl) (fun _ _ _ h => h) (by kernel_rfl) hHeld (v := ?_) (fun wz hSw => ?_) ?_
        rotate_left 1
        · (try dsimp only at hSw); go_simp; (try with_reducible rfl)
        try simp only [Act.put, List.setIfInBounds_toArray, List.set_cons_zero, List.set_cons_succ]
        refine wpAnyH_done (by kernel_rfl) ?_ _
        have Kb := Lib.hid kb
        clear kb
        try simp only [Exit.then]
        go_wp2
        go_ret
        exact ⟨by rw [Hf.out]; rfl, Hgo.out.trans (Kb.out.mono Hgo.out.size)⟩
      · have Hok := Lib.hid hok
        by_cases hn : p.1.length = q.1.length
        · have Hall2 : Hid (allTo (bsP bs) (k + 1) = true) := Lib.hid (by rw [Hk2.out, Hall.out, Hp.out, hok]; simpa using hn)
          have Hn1 : Hid (decide (p.1.length = q.1.length) = true) := Lib.hid (by simpa using hn)
          clear hok Hbad hn
          go_region_held3 (fun W => W.cell? ⟨wr.heap.size, 0, none⟩ = some (.slice E1 p.1.length e1) ∧ W.cell? ⟨wr.heap.size, 1, none⟩ = some (.slice E2 p.2.length e2) ∧ W.cell? ⟨b', o', none⟩ = some (.slice E3 q.1.length e3) ∧ W.cell? ⟨b', o' + 1, none⟩ = some (.slice E4 q.2.length e4)) (exact HS.out _ (by first | exact kb2 | exact kb | exact (Below.refl _ _).drew))
            ((first | (go_at_call 75; go_fit (implValidBox_is Hok.out (Hr1.out.at (Nat.le_refl _) Hw0.out) (Hr2.out.at (Nat.le_refl _) Hw0.out) (Nat.le_refl _)); rintro e y1 ⟨rfl, g⟩; have kb : Below W1.heap.size W1 y1 := (Below.refl _ _).drew.trans g) | (go_at_call 76; go_fit (sameRank_any (r := true) Hn1.out (Hr1.out.at (Nat.le_refl _) kb) (Hr2.out.at (Nat.le_refl _) kb) (Hr3.out.at (Nat.le_refl _) (Hw1.out.trans (kb.mono Hw1.out.size))) (Hr4.out.at (Nat.le_refl _) (Hw1.out.trans (kb.mono Hw1.out.size))) (Nat.le_refl _)); rintro e y2 ⟨rfl, g2⟩; have kb2 : Below W1.heap.size W1 y2 := kb.trans (g2.mono kb.size))))
          have Kb := Lib.hid kb2
          clear kb kb2
          try simp only [Exit.then]
          go_wp2
          go_roundw
          case rel => exact ⟨k + 1, by omega, by go_num, Hgo.out.trans (Kb.out.mono Hgo.out.size), Hall2.out⟩
          case measure => simp [intOf]; omega
        · have Hf := Lib.hid (Hbad.out (by rw [Hp.out, hok]; simpa using hn))
          have Hn1 : Hid (decide (p.1.length = q.1.length) = false) := Lib.hid (by simpa using hn)
          clear hok Hbad hn
          go_region_held3 (fun W => W.cell? ⟨wr.heap.size, 0, none⟩ = some (.slice E1 p.1.length e1) ∧ W.cell? ⟨wr.heap.size, 1, none⟩ = some (.slice E2 p.2.length e2) ∧ W.cell? ⟨b', o', none⟩ = some (.slice E3 q.1.length e3) ∧ W.cell? ⟨b', o' + 1, none⟩ = some (.slice E4 q.2.length e4)) (exact HS.out _ (by first | exact kb2 | exact kb | exact (Below.refl _ _).drew))
            ((first | (go_at_call 75; go_fit (implValidBox_is Hok.out (Hr1.out.at (Nat.le_refl _) Hw0.out) (Hr2.out.at (Nat.le_refl _) Hw0.out) (Nat.le_refl _)); rintro e y1 ⟨rfl, g⟩; have kb : Below W1.heap.size W1 y1 := (Below.refl _ _).drew.trans g) | (go_at_call 76; go_fit (sameRank_any (r := false) Hn1.out (Hr1.out.at (Nat.le_refl _) kb) (Hr2.out.at (Nat.le_refl _) kb) (Hr3.out.at (Nat.le_refl _) (Hw1.out.trans (kb.mono Hw1.out.size))) (Hr4.out.at (Nat.le_refl _) (Hw1.out.trans (kb.mono Hw1.out.size))) (Nat.le_refl _)); rintro e y2 ⟨rfl, g2⟩; have kb2 : Below W1.heap.size W1 y2 := kb.trans (g2.mono kb.size))))
          have Kb := Lib.hid kb2
          clear kb kb2
          try simp only [Exit.then]
          go_wp2
          go_ret
          exact ⟨by rw [Hf.out]; rfl, Hgo.out.trans (Kb.out.mono Hgo.out.size)⟩
    · obtain rfl : k = bs.length := by omega
      have Hf2 : Hid (r = true) := Lib.hid (by rw [← Hr.out, boxesOk_end Hall.out]; simpa using H32.out)
      clear hbel
      go_wp2
      go_ret
      exact ⟨by rw [Hf2.out]; rfl, Hbel.out⟩
end Go.Proofs.Ytbghekgghiamcaa
