/- Contracts of the functions that check a list of boxes. No statement is proved here. -/
import Derived.Test.YtbghekgghiamcaaBsz
import Derived.Test.YtbghekgghiamcaaHeld
import Derived.Test.YtbghekgghiamcaaBxL
import Derived.Deep.DeepFit
import Derived.Deep.RegionHeld3
namespace Go.Proofs.Ytbghekgghiamcaa
open Go.RowKit
set_option linter.unusedVariables false
def bxAt (bs : List Bx) (i : Nat) : Bx := bs.getD i ([], [])
theorem bxAt_at (bs : List Bx) (i : Nat) (h : i < bs.length) : bxAt bs i = bs[i] := by unfold bxAt; rw [List.getD_eq_getElem?_getD, List.getElem?_eq_getElem h]; rfl
def bsP (bs : List Bx) (i : Nat) : Bool := boxOk (bxAt bs i).1 (bxAt bs i).2 && decide ((bxAt bs i).1.length = (bxAt bs 0).1.length)
/-- Is this a valid list of boxes? -/
def boxesOk (bs : List Bx) : Bool := decide (bs.length ≤ 32) && allTo (bsP bs) bs.length
theorem boxesOk_long {bs : List Bx} (h : ¬ bs.length ≤ 32) : boxesOk bs = false := by simp [boxesOk, h]
theorem boxesOk_bad {bs : List Bx} {k : Nat} (hk : k < bs.length) (h : bsP bs k = false) : boxesOk bs = false := by simp [boxesOk, allTo_bad _ k _ hk h]
theorem boxesOk_end {bs : List Bx} (h : allTo (bsP bs) bs.length = true) : boxesOk bs = decide (bs.length ≤ 32) := by simp [boxesOk, h]
theorem boxesOk_at {bs : List Bx} (h : boxesOk bs = true) (i : Nat) (hi : i < bs.length) : boxOk bs[i].1 bs[i].2 = true := by
  have h2 : allTo (bsP bs) bs.length = true := by simp only [boxesOk, Bool.and_eq_true] at h; exact h.2
  have := allTo_at h2 hi
  simp only [bsP, Bool.and_eq_true, bxAt_at _ _ hi] at this
  exact this.1
set_option maxHeartbeats 400000 in
theorem sameRank_any {B : Nat} {w : World} {v1 v2 u1 u2 : Value} {p q : Bx} {r : Bool} (hr : decide (p.1.length = q.1.length) = r) (h1 : Ri B w v1 p.1) (h2 : Ri B w v2 p.2) (g1 : Ri B w u1 q.1) (g2 : Ri B w u2 q.2) (hB : B ≤ w.heap.size) :
    Calls Try.prog 76 #[.agg #[v1, v2], .agg #[u1, u2]] w (GivesB (.bool r) w) := by
  obtain ⟨A1, c1, rfl, _⟩ := h1
  obtain ⟨A2, c2, rfl, _⟩ := h2
  obtain ⟨A3, c3, rfl, _⟩ := g1
  obtain ⟨A4, c4, rfl, _⟩ := g2
  have Hb0 : Hid (Below w.heap.size w ((w.alloc (.cells #[.slice A1 p.1.length c1, .slice A2 p.2.length c2] 43)).alloc (.cells #[.slice A3 q.1.length c3, .slice A4 q.2.length c4] 43))) :=
    Lib.hid (((Below.refl _ w).alloc (Nat.le_refl _) _).alloc (by simp) _)
  have Hr := Lib.hid hr; clear hr
  by_cases hn : p.1.length = q.1.length
  · have hn' : ((p.1.length : Int) = (q.1.length : Int)) := by omega
    have Hf : Hid (r = true) := Lib.hid (by rw [← Hr.out]; simpa using hn)
    clear hn
    go_enter Try.func76, Try.ntmps76
    go_wp2
    go_ret
    exact ⟨by rw [Hf.out]; simp, Hb0.out⟩
  · have Hf : Hid (r = false) := Lib.hid (by rw [← Hr.out]; simpa using hn)
    have hn' : ((p.1.length : Int) == (q.1.length : Int)) = false := by simp; omega
    have hn3 : ¬ ((p.1.length : Int) = (q.1.length : Int)) := by omega
    go_enter Try.func76, Try.ntmps76
    go_wp2
    go_ret
    exact ⟨by rw [Hf.out]; first | rfl | (simp; done) | (simp; omega), Hb0.out⟩
set_option maxHeartbeats 2000000 in
set_option maxRecDepth 100000 in
theorem l07List_any {B : Nat} {w : World} {v : Value} {bs : List Bx} (h : RiB B w v bs) (hB : B ≤ w.heap.size) :
    Calls Try.prog 50 #[v] w (GivesB (.bool (boxesOk bs)) w) := by
  obtain ⟨A, cap, rfl, hl, hc, hx⟩ := h
  have Hx := Lib.hid hx; clear hx
  unfold maxLen at hc
  generalize hr : boxesOk bs = r
  have Hr := Lib.hid hr; clear hr
  go_enter Try.func50, Try.ntmps50
  go_wp2
  go_loopw [3] (fun i wr => ∃ k : Nat, k ≤ bs.length ∧ i = .int .i64 k ∧ Below w.heap.size w wr ∧ allTo (bsP bs) k = true) (fun i _ => bs.length - (intOf i).toNat)
  case atStart => exact ⟨0, Nat.zero_le _, rfl, Below.refl _ _, allTo_zero _⟩
  case round =>
    obtain ⟨k, hk, rfl, hbel, hall⟩ := hrel
    have Hall := Lib.hid hall; have Hbel := Lib.hid hbel
    clear hall
    by_cases hlt : k < bs.length
    · have hlt0 : 0 < bs.length := by omega
      obtain ⟨b, o, u1, u2, hA, hb, hq1, hq2, hr1, hr2⟩ := Hx.out k hlt
      obtain ⟨b', o', u3, u4, hA', hb', hq3, hq4, hr3, hr4⟩ := Hx.out 0 hlt0
      have e0 : b' = b ∧ o' = o := by rw [hA] at hA'; injection hA' with h1; injection h1 with h2 h3; exact ⟨h2.symm, h3.symm⟩
      obtain ⟨rfl, rfl⟩ := e0
      subst hA
      clear hA'
      have hs := hbel.size
      have g1 : wr.cell? ⟨b', o' + k * 2, none⟩ = some u1 := by rw [hbel.cell (show b' < _ from by omega)]; exact hq1
      have g2 : wr.cell? ⟨b', o' + k * 2 + 1, none⟩ = some u2 := by rw [hbel.cell (show b' < _ from by omega)]; exact hq2
      have g3 : wr.cell? ⟨b', o', none⟩ = some u3 := by rw [hbel.cell (show b' < _ from by omega)]; simpa using hq3
      have Hr1 := Lib.hid (hr1.at hB hbel); have Hr2 := Lib.hid (hr2.at hB hbel)
      have Hp : Hid (bsP bs k = (boxOk bs[k].1 bs[k].2 && decide (bs[k].1.length = bs[0].1.length))) := Lib.hid (by unfold bsP; rw [bxAt_at _ _ hlt, bxAt_at _ _ hlt0])
      have Hk2 := Lib.hid (allTo_succ (bsP bs) k)
      have Hbad : Hid (bsP bs k = false → r = false) := Lib.hid (fun h => by rw [← Hr.out]; exact boxesOk_bad hlt h)
      have Hw0 : Hid (Below wr.heap.size wr wr.drew) := Lib.hid (Below.refl _ _).drew
      obtain ⟨E1, e1, rfl, _⟩ := hr1
      obtain ⟨E2, e2, rfl, _⟩ := hr2
      obtain ⟨E3, e3, rfl, _⟩ := hr3
      have HS : Hid (∀ W, Below wr.heap.size wr W → W.cell? ⟨b', o' + k * 2, none⟩ = some (.slice E1 bs[k].1.length e1) ∧ W.cell? ⟨b', o' + k * 2 + 1, none⟩ = some (.slice E2 bs[k].2.length e2) ∧ W.cell? ⟨b', o', none⟩ = some (.slice E3 bs[0].1.length e3)) := Lib.hid (fun W hW => by
        have e : ∀ jj : Nat, W.cell? ⟨b', jj, none⟩ = wr.cell? ⟨b', jj, none⟩ := fun jj => hW.cell (p := ⟨b', jj, none⟩) (show b' < _ from by omega)
        exact ⟨by rw [e]; exact g1, by rw [e]; exact g2, by rw [e]; exact g3⟩)
      clear hq1 hq2 hq3 hq4 hr4 hbel g1 g2 g3
      generalize bs[k] = p at *
      generalize bs[0] = q at *
      cases hok : boxOk p.1 p.2
      · have Hok := Lib.hid hok
        have Hf := Lib.hid (Hbad.out (by rw [Hp.out, hok]; rfl))
        clear hok Hbad
        go_wp2
        refine wp_region_held_drew (S := fun W => W.cell? ⟨b', o' + k * 2, none⟩ = some (.slice E1 p.1.length e1) ∧ W.cell? ⟨b', o' + k * 2 + 1, none⟩ = some (.slice E2 p.2.length e2) ∧ W.cell? ⟨b', o', none⟩ = some (.slice E3 q.1.length e3)) (by kernel_rfl) (HS.out _ (Below.refl _ _).drew) (fun hHeld => ?_)
        refine held_yes 0 (some 10) rfl rfl (by kernel_rfl) (by kernel_rfl) (by kernel_rfl) (fun _ _ _ h => h) (by kernel_rfl) hHeld (v := ?_) (fun wz hSw => ?_) ?_
        rotate_left 1
        · (try dsimp only at hSw); go_simp; (try with_reducible rfl)
        try simp only [Act.put, List.setIfInBounds_toArray, List.set_cons_zero, List.set_cons_succ]
        refine held_yes 1 (some 11) rfl rfl (by kernel_rfl) (by kernel_rfl) (by kernel_rfl) (fun _ _ _ h => h) (by kernel_rfl) hHeld (v := ?_) (fun wz hSw => ?_) ?_
        rotate_left 1
        · (try dsimp only at hSw); go_simp; (try with_reducible rfl)
        try simp only [Act.put, List.setIfInBounds_toArray, List.set_cons_zero, List.set_cons_succ]
        refine held_yes 2 (some 12) rfl rfl (by kernel_rfl) (by kernel_rfl) (by kernel_rfl) (fun _ _ _ h => h) (by kernel_rfl) hHeld (v := ?_) (fun wz hSw => ?_) ?_
        rotate_left 1
        · (try dsimp only at hSw); go_simp; (try with_reducible rfl)
        try simp only [Act.put, List.setIfInBounds_toArray, List.set_cons_zero, List.set_cons_succ]
        refine held_yes 3 (some 13) rfl rfl (by kernel_rfl) (by kernel_rfl) (by kernel_rfl) (fun _ _ _ h => h) (by kernel_rfl) hHeld (v := ?_) (fun wz hSw => ?_) ?_
        rotate_left 1
        · (try dsimp only at hSw); go_simp; (try with_reducible rfl)
        try simp only [Act.put, List.setIfInBounds_toArray, List.set_cons_zero, List.set_cons_succ]
        refine wpAnyH_ready (rs := [4]) (by kernel_rfl) (by simp) ?_
        refine AllReadyH.cons rfl (fun K hK => ?_) AllReadyH.nil
        go_simp
        (go_at_call 74; go_fit (l07Box_is Hok.out (Hr1.out.at (Nat.le_refl _) Hw0.out) (Hr2.out.at (Nat.le_refl _) Hw0.out) (Nat.le_refl _)); rintro e u1 ⟨rfl, g⟩; have kb : Below wr.heap.size wr u1 := (Below.refl _ _).drew.trans g)
        refine hK.out _ _ (HS.out _ kb) (fun hHeld => ?_)
        clear hK K
        try simp only [Act.put, List.setIfInBounds_toArray, List.set_cons_zero, List.set_cons_succ]
        refine held_yes 5 (some 15) rfl rfl (by kernel_rfl) (by kernel_rfl) (by kernel_rfl) (fun _ _ _ h => h) (by kernel_rfl) hHeld (v := ?_) (fun wz hSw => ?_) ?_
        rotate_left 1
        · (try dsimp only at hSw); go_simp; (try with_reducible rfl)
        try simp only [Act.put, List.setIfInBounds_toArray, List.set_cons_zero, List.set_cons_succ]
        refine held_yes 6 (some 16) rfl rfl (by kernel_rfl) (by kernel_rfl) (by kernel_rfl) (fun _ _ _ h => h) (by kernel_rfl) hHeld (v := ?_) (fun wz hSw => ?_) ?_
        rotate_left 1
        · (try dsimp only at hSw); go_simp; (try with_reducible rfl)
        try simp only [Act.put, List.setIfInBounds_toArray, List.set_cons_zero, List.set_cons_succ]
        refine held_no 7 (some 17) rfl rfl (by kernel_rfl) (by kernel_rfl) (by kernel_rfl) (fun _ _ _ h => h) (by kernel_rfl) hHeld ?_
        try simp only [Act.put, List.setIfInBounds_toArray, List.set_cons_zero, List.set_cons_succ]
        refine held_no 8 (some 18) rfl rfl (by kernel_rfl) (by kernel_rfl) (by kernel_rfl) (fun _ _ _ h => h) (by kernel_rfl) hHeld ?_
        try simp only [Act.put, List.setIfInBounds_toArray, List.set_cons_zero, List.set_cons_succ]
        refine held_no 9 (some 19) rfl rfl (by kernel_rfl) (by kernel_rfl) (by kernel_rfl) (fun _ _ _ h => h) (by kernel_rfl) hHeld ?_
        try simp only [Act.put, List.setIfInBounds_toArray, List.set_cons_zero, List.set_cons_succ]
        refine held_no 10 (some 20) rfl rfl (by kernel_rfl) (by kernel_rfl) (by kernel_rfl) (fun _ _ _ h => h) (by kernel_rfl) hHeld ?_
        try simp only [Act.put, List.setIfInBounds_toArray, List.set_cons_zero, List.set_cons_succ]
        refine held_no 11 (some 21) rfl rfl (by kernel_rfl) (by kernel_rfl) (by kernel_rfl) (fun _ _ _ h => h) (by kernel_rfl) hHeld ?_
        try simp only [Act.put, List.setIfInBounds_toArray, List.set_cons_zero, List.set_cons_succ]
        refine held_no 12 (some 22) rfl rfl (by kernel_rfl) (by kernel_rfl) (by kernel_rfl) (fun _ _ _ h => h) (by kernel_rfl) hHeld ?_
        try simp only [Act.put, List.setIfInBounds_toArray, List.set_cons_zero, List.set_cons_succ]
        refine held_no 13 (some 23) rfl rfl (by kernel_rfl) (by kernel_rfl) (by kernel_rfl) (fun _ _ _ h => h) (by kernel_rfl) hHeld ?_
        try simp only [Act.put, List.setIfInBounds_toArray, List.set_cons_zero, List.set_cons_succ]
        refine held_no 14 (some 24) rfl rfl (by kernel_rfl) (by kernel_rfl) (by kernel_rfl) (fun _ _ _ h => h) (by kernel_rfl) hHeld ?_
        try simp only [Act.put, List.setIfInBounds_toArray, List.set_cons_zero, List.set_cons_succ]
        refine held_no 15 (some 25) rfl rfl (by kernel_rfl) (by kernel_rfl) (by kernel_rfl) (fun _ _ _ h => h) (by kernel_rfl) hHeld ?_
        try simp only [Act.put, List.setIfInBounds_toArray, List.set_cons_zero, List.set_cons_succ]
        refine held_no 16 (some 26) rfl rfl (by kernel_rfl) (by kernel_rfl) (by kernel_rfl) (fun _ _ _ h => h) (by kernel_rfl) hHeld ?_
        try simp only [Act.put, List.setIfInBounds_toArray, List.set_cons_zero, List.set_cons_succ]
        refine held_no 17 (some 27) rfl rfl (by kernel_rfl) (by kernel_rfl) (by kernel_rfl) (fun _ _ _ h => h) (by kernel_rfl) hHeld ?_
        try simp only [Act.put, List.setIfInBounds_toArray, List.set_cons_zero, List.set_cons_succ]
        refine held_no 18 (some 28) rfl rfl (by kernel_rfl) (by kernel_rfl) (by kernel_rfl) (fun _ _ _ h => h) (by kernel_rfl) hHeld ?_
        try simp only [Act.put, List.setIfInBounds_toArray, List.set_cons_zero, List.set_cons_succ]
        refine held_yes 19 (some 29) rfl rfl (by kernel_rfl) (by kernel_rfl) (by kernel_rfl) (fun _ _ _ h => h) (by kernel_rfl) hHeld (v := ?_) (fun wz hSw => ?_) ?_
        rotate_left 1
        · (try dsimp only at hSw); go_simp; (try with_reducible rfl)
        try simp only [Act.put, List.setIfInBounds_toArray, List.set_cons_zero, List.set_cons_succ]
        refine wpAnyH_done (by kernel_rfl) ?_ _
        have Kb := Lib.hid kb
        clear kb
        try simp only [Exit.then]
        go_wp2
        go_ret
        exact ⟨by rw [Hf.out]; rfl, Hbel.out.trans (Kb.out.mono Hbel.out.size)⟩
      · have Hok := Lib.hid hok
        by_cases hn : p.1.length = q.1.length
        · have Hall2 : Hid (allTo (bsP bs) (k + 1) = true) := Lib.hid (by rw [Hk2.out, Hall.out, Hp.out, hok]; simpa using hn)
          have hn' : ((p.1.length : Int) = (q.1.length : Int)) := by omega
          clear hok Hbad hn
          go_wp2
          go_region_held3 (fun W => W.cell? ⟨b', o' + k * 2, none⟩ = some (.slice E1 p.1.length e1) ∧ W.cell? ⟨b', o' + k * 2 + 1, none⟩ = some (.slice E2 p.2.length e2) ∧ W.cell? ⟨b', o', none⟩ = some (.slice E3 q.1.length e3)) (exact HS.out _ (by first | exact kb | exact (Below.refl _ _).drew))
            ((first | (go_at_call 74; go_fit (l07Box_is Hok.out (Hr1.out.at (Nat.le_refl _) Hw0.out) (Hr2.out.at (Nat.le_refl _) Hw0.out) (Nat.le_refl _)); rintro e u1 ⟨rfl, g⟩; have kb : Below wr.heap.size wr u1 := (Below.refl _ _).drew.trans g)))
          have Kb := Lib.hid kb
          clear kb
          try simp only [Exit.then]
          go_wp2
          go_roundw
          case rel => exact ⟨k + 1, by omega, by go_num, Hbel.out.trans (Kb.out.mono Hbel.out.size), Hall2.out⟩
          case measure => simp [intOf]; omega
        · have Hf := Lib.hid (Hbad.out (by rw [Hp.out, hok]; simpa using hn))
          have hn' : ((p.1.length : Int) == (q.1.length : Int)) = false := by simp; omega
          have hn2 : ((p.1.length : Int) != (q.1.length : Int)) = true := by simp; omega
          have hn3 : ¬ ((p.1.length : Int) = (q.1.length : Int)) := by omega
          clear hok Hbad hn
          go_wp2
          go_region_held3 (fun W => W.cell? ⟨b', o' + k * 2, none⟩ = some (.slice E1 p.1.length e1) ∧ W.cell? ⟨b', o' + k * 2 + 1, none⟩ = some (.slice E2 p.2.length e2) ∧ W.cell? ⟨b', o', none⟩ = some (.slice E3 q.1.length e3)) (exact HS.out _ (by first | exact kb | exact (Below.refl _ _).drew))
            ((first | (go_at_call 74; go_fit (l07Box_is Hok.out (Hr1.out.at (Nat.le_refl _) Hw0.out) (Hr2.out.at (Nat.le_refl _) Hw0.out) (Nat.le_refl _)); rintro e u1 ⟨rfl, g⟩; have kb : Below wr.heap.size wr u1 := (Below.refl _ _).drew.trans g)))
          have Kb := Lib.hid kb
          clear kb
          try simp only [Exit.then]
          go_wp2
          go_ret
          exact ⟨by rw [Hf.out]; rfl, Hbel.out.trans (Kb.out.mono Hbel.out.size)⟩
    · obtain rfl : k = bs.length := by omega
      have Hf : Hid (r = decide (bs.length ≤ 32)) := Lib.hid (by rw [← Hr.out]; exact boxesOk_end Hall.out)
      have hlt2 : ¬ bs.length < bs.length := by omega
      by_cases h32 : bs.length ≤ 32
      · have q1 : decide ((bs.length : Int) ≤ 32) = true := decide_eq_true (by omega)
        have q2 : (bs.length : Int) ≤ 32 := by omega
        have Hf2 : Hid (r = true) := Lib.hid (by rw [Hf.out]; simpa using h32)
        clear hbel
        go_wp2
        go_ret
        exact ⟨by rw [Hf2.out]; first | rfl | simp, Hbel.out⟩
      · have q1 : decide ((bs.length : Int) ≤ 32) = false := decide_eq_false (by omega)
        have q2 : ¬ (bs.length : Int) ≤ 32 := by omega
        have Hf2 : Hid (r = false) := Lib.hid (by rw [Hf.out]; simpa using h32)
        clear hbel
        go_wp2
        go_ret
        exact ⟨by rw [Hf2.out]; first | rfl | simp, Hbel.out⟩
end Go.Proofs.Ytbghekgghiamcaa
