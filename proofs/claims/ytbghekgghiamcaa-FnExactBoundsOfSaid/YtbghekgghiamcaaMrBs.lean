/- Contract of the law's function that marks lists of boxes. No statement is proved here. -/
import Derived.Test.YtbghekgghiamcaaMrS
import Derived.Test.YtbghekgghiamcaaBxL
namespace Go.Proofs.Ytbghekgghiamcaa
open Go.RowKit
set_option linter.unusedVariables false
set_option maxHeartbeats 400000 in
theorem markJ_any {w : World} {lo : Nat} {v : Value} {xs : List Int} (h : OI w lo v xs) (k : Nat) (hk : k + xs.length ≤ 4611686018427387904) :
    Calls Try.prog 13 #[v, .int .i64 (k : Int)] w fun e w' => e = .returned (.int .i64 ((k + xs.length : Nat) : Int)) ∧ OI w' lo v (marks k xs.length) ∧ w.grownBy w' v.ownBlock := by
  have H := Lib.hid h
  rcases h.slice with ⟨rfl, rfl⟩ | ⟨g, cap, rfl, hlo, hg, hn, hm⟩
  · go_enter Try.func13, Try.ntmps13
    go_wp2
    go_loop [1, 5] (fun c i => i = .int .i64 0 ∧ c = .int .i64 (k : Int)) (fun _ _ => 0)
    case atStart => exact ⟨rfl, rfl⟩
    case round =>
      obtain ⟨rfl, rfl⟩ := hrel
      go_wp2
      go_ret
      exact ⟨rfl, H.out, grown_refl _ _⟩
  · unfold maxLen at hm
    clear h
    go_enter Try.func13, Try.ntmps13
    go_wp2
    go_loopw [1, 5] (fun c i wr => ∃ j : Nat, j ≤ xs.length ∧ i = .int .i64 (j : Int) ∧ c = .int .i64 ((k + j : Nat) : Int) ∧ OI wr lo (.slice (some ⟨g, 0, none⟩) xs.length cap) (mkd k xs j) ∧ w.grownBy wr (some g)) (fun _ i _ => xs.length - (intOf i).toNat)
    case atStart => exact ⟨0, Nat.zero_le _, rfl, rfl, H.out, grown_refl _ _⟩
    case round =>
      obtain ⟨j, hj, rfl, rfl, hown, hgr⟩ := hrel
      have Hown := Lib.hid hown; have Hgr := Lib.hid hgr
      clear hgr
      by_cases hlt : j < xs.length
      · have Hlen := Lib.hid (mkd_length k xs j hj)
        obtain ⟨u, hu⟩ : ∃ u, wr.cell? ⟨g, j, none⟩ = some u := by
          have := World.ownsRow.cells (g := g) hown rfl j (.int .i64 ((mkd k xs j)[j]'(by rw [Hlen.out]; exact hlt))) (by simp [Hlen.out, hlt])
          rw [add_at, Nat.zero_add] at this
          exact ⟨_, this⟩
        have hfz : wr.frozen? ⟨g, j, none⟩ = false := by
          rcases hown.2 with ⟨h0, _⟩ | ⟨g', cap', cur, he, hb, hgg, _⟩
          · cases h0
          · have e : g = g' := by simp only [Value.slice.injEq, Option.some.injEq, Addr.mk.injEq] at he; exact he.1.1
            subst e
            exact frozen_of_row _ _ _ _ _ hgg
        have Hset : Hid (OI (wr.setCell ⟨g, j, none⟩ (.int .i64 ((k + j : Nat) : Int))) lo (.slice (some ⟨g, 0, none⟩) xs.length cap) (mkd k xs (j + 1))) := Lib.hid (by
          rw [← mkd_step k xs j hlt]
          exact hown.set j _ (by rw [Hlen.out]; exact hlt))
        have Hgr2 : Hid (w.grownBy (wr.setCell ⟨g, j, none⟩ (.int .i64 ((k + j : Nat) : Int))) (some g)) := Lib.hid (grown_trans Hgr.out (grown_set _ _ _ _))
        clear hown
        go_wp2
        go_roundw
        case rel => exact ⟨j + 1, by omega, by go_num, by go_num, Hset.out, Hgr2.out⟩
        case measure => simp [intOf]; omega
      · obtain rfl : j = xs.length := by omega
        have Hend : Hid (OI wr lo (.slice (some ⟨g, 0, none⟩) xs.length cap) (marks k xs.length)) := Lib.hid (mkd_end k xs ▸ hown)
        clear hown
        go_wp2
        go_ret
        exact ⟨rfl, Hend.out, Hgr.out⟩
theorem OI.row {w : World} {lo g : Nat} {xs : List Int} (h : OI w lo (.slice (some ⟨g, 0, none⟩) xs.length xs.length) xs) : Row w g xs := by
  rcases h.2 with ⟨h0, _⟩ | ⟨g', cap', cur, he, hb, hg, hnc, hm, hcs, htake⟩
  · cases h0
  · simp only [Value.slice.injEq, Option.some.injEq, Addr.mk.injEq] at he
    obtain ⟨⟨rfl, _⟩, _, rfl⟩ := he
    have e : cur = cellsI xs := by
      apply Array.ext'
      rw [Nat.mul_one] at htake hcs
      rw [List.take_of_length_le (by simp; omega)] at htake
      rw [htake]; simp [cellsI]
    unfold Row
    rw [← e]; exact hg
/-- Rows of numbers from lo to before hi keep their lengths. -/
def Rows2 (lo hi : Nat) (w wr : World) : Prop := ∀ g xs, lo ≤ g → g < hi → Row w g xs → ∃ ys, ys.length = xs.length ∧ Row wr g ys
theorem Rows2.refl (lo hi : Nat) (w : World) : Rows2 lo hi w w := fun _ xs _ _ h => ⟨xs, rfl, h⟩
theorem Rows2.step {lo hi b : Nat} {w wr w2 : World} {v : Value} {ms : List Int} {n : Nat} (h : Rows2 lo hi w wr) (hv : v = .slice (some ⟨b, 0, none⟩) n n) (ho : OI w2 lo v ms) (hm : ms.length = n) {ys : List Int} (hr : Row wr b ys) (hl : ys.length = n) (hg : wr.grownBy w2 v.ownBlock) : Rows2 lo hi w w2 := fun g xs h1 h2 h3 => by
  obtain ⟨zs, hz, hrz⟩ := h g xs h1 h2 h3
  by_cases e : g = b
  · subst e
    subst hv
    subst hm
    have hzy : cellsI zs = cellsI ys := by
      unfold Row at hrz hr
      rw [hrz] at hr
      have := Option.some.inj hr
      injection this
    have hsz : zs.length = ys.length := by have := congrArg Array.size hzy; simpa [cellsI_size] using this
    exact ⟨ms, by omega, ho.row⟩
  · have hlt : g < wr.heap.size := by
      rcases Nat.lt_or_ge g wr.heap.size with hl2 | hl2
      · exact hl2
      · unfold Row at hrz; rw [Array.getElem?_eq_none hl2] at hrz; cases hrz
    refine ⟨zs, hz, ?_⟩
    unfold Row
    rw [hg.block g hlt (fun e2 => e (by subst hv; exact Option.some.inj e2))]
    exact hrz
/-- A list of boxes in blocks from lo to before hi. -/
def BRowH (w : World) (lo hi : Nat) (v : Value) (bs : List Bx) : Prop := ∃ (b : Nat) (C : Array Value), v = .slice (some ⟨b, 0, none⟩) bs.length bs.length ∧ lo ≤ b ∧ b < hi ∧ w.heap[b]? = some (.cells C 43 (0, 0)) ∧ C.size = bs.length * 2 ∧
  ∀ (j : Nat) (hj : j < bs.length), ∃ b1 b2, C[j * 2]? = some (.slice (some ⟨b1, 0, none⟩) bs[j].1.length bs[j].1.length) ∧ C[j * 2 + 1]? = some (.slice (some ⟨b2, 0, none⟩) bs[j].2.length bs[j].2.length) ∧ (lo ≤ b1 ∧ b1 < hi) ∧ (lo ≤ b2 ∧ b2 < hi) ∧ Row w b1 bs[j].1 ∧ Row w b2 bs[j].2
theorem row_lt {w : World} {b : Nat} {C : Array Value} {t : TypeId} (h : w.heap[b]? = some (.cells C t (0, 0))) : b < w.heap.size := by
  rcases Nat.lt_or_ge b w.heap.size with hl | hl
  · exact hl
  · rw [Array.getElem?_eq_none hl] at h; cases h
theorem BRow.hi {w : World} {lo : Nat} {v : Value} {bs : List Bx} (h : BRow w lo v bs) : BRowH w lo w.heap.size v bs := by
  obtain ⟨b, C, hv, h1, h2, h3, h4⟩ := h
  refine ⟨b, C, hv, h1, row_lt h2, h2, h3, fun j hj => ?_⟩
  obtain ⟨b1, b2, g1, g2, g3, g4, g5, g6⟩ := h4 j hj
  exact ⟨b1, b2, g1, g2, ⟨g3, row_lt g5⟩, ⟨g4, row_lt g6⟩, g5, g6⟩
theorem BRowH.keep {w w2 : World} {lo hi : Nat} {v : Value} {bs : List Bx} (h : BRowH w lo hi v bs) (hh : hi ≤ w.heap.size) (hb : Below w.heap.size w w2) : BRowH w2 lo hi v bs := by
  obtain ⟨b, C, hv, h1, h2, h3, h0, h4⟩ := h
  refine ⟨b, C, hv, h1, h2, (hb.block b (by omega)).trans h3, h0, fun j hj => ?_⟩
  obtain ⟨b1, b2, g1, g2, g3, g4, g5, g6⟩ := h4 j hj
  exact ⟨b1, b2, g1, g2, g3, g4, (hb.block b1 (by omega)).trans g5, (hb.block b2 (by omega)).trans g6⟩
theorem BRowH.rib {w : World} {lo hi : Nat} {v : Value} {bs : List Bx} (h : BRowH w lo hi v bs) (hs : SmB bs) (hi : ∀ p ∈ bs, (∀ x ∈ p.1, InI x) ∧ ∀ x ∈ p.2, InI x) : RiB w.heap.size w v bs := by
  obtain ⟨b, C, hv, h1, h2, h3, h0, h4⟩ := h
  refine BRow.rib (lo := lo) ⟨b, C, hv, h1, h3, h0, fun j hj => ?_⟩ hs hi
  obtain ⟨b1, b2, g1, g2, g3, g4, g5, g6⟩ := h4 j hj
  exact ⟨b1, b2, g1, g2, g3.1, g4.1, g5, g6⟩
set_option maxHeartbeats 1000000 in
set_option maxRecDepth 100000 in
theorem markBoxes_any {w : World} {lo hi : Nat} {v : Value} {bs : List Bx} (h : BRowH w lo hi v bs) (hs : SmB bs) :
    Calls Try.prog 26 #[v, .int .i64 1] w fun e w' => (∃ n : Nat, e = .returned (.int .i64 (n : Int))) ∧ Mv lo hi w w' := by
  obtain ⟨b, C, rfl, hlo, hhi, hrow, -, hx⟩ := h
  have Hx := Lib.hid hx; have Hrow := Lib.hid hrow; have Hs := Lib.hid hs
  have hb1 : bs.length ≤ 1048576 := hs.1
  have Hbw := Lib.hid (row_lt hrow)
  clear hx hrow hs
  go_enter Try.func26, Try.ntmps26
  go_wp2
  go_loopw [1, 5] (fun c i wr => ∃ j n : Nat, j ≤ bs.length ∧ i = .int .i64 (j : Int) ∧ c = .int .i64 (n : Int) ∧ n ≤ 1 + j * 2097152 ∧ Mv lo hi w wr ∧ Rows2 lo hi w wr ∧ wr.heap[b]? = w.heap[b]?) (fun _ i _ => bs.length - (intOf i).toNat)
  case atStart => exact ⟨0, 1, Nat.zero_le _, rfl, rfl, by omega, Mv.refl _ _ _, Rows2.refl _ _ _, rfl⟩
  case round =>
    obtain ⟨j, n, hj, rfl, rfl, hn, hmv, hrw, hbb⟩ := hrel
    have Hmv := Lib.hid hmv; have Hrw := Lib.hid hrw
    have hrow := hbb.trans Hrow.out
    by_cases hlt : j < bs.length
    · obtain ⟨b1, b2, h1, h2, h3, h4, h5, h6⟩ := Hx.out j hlt
      have hsm := Hs.out.2 _ (List.getElem_mem hlt)
      obtain ⟨ys, hy, hry⟩ := hrw b1 _ h3.1 h3.2 h5
      have HO1 := Lib.hid (OI.of_row hry h3.1 (by unfold maxLen; omega))
      have Hry := Lib.hid hry
      have q1 : wr.cell? ⟨b, j * 2, none⟩ = some (.slice (some ⟨b1, 0, none⟩) bs[j].1.length bs[j].1.length) := by rw [cell_of_row _ _ _ _ _ _ hrow]; exact h1
      have Hrow1 := Lib.hid hrow
      have H2 := Lib.hid h2; have H5 := Lib.hid h5; have H6 := Lib.hid h6; have Hy := Lib.hid hy
      have hne1 : b ≠ b1 := fun e => by subst e; unfold Row at hry; rw [hry] at hrow; injection hrow with e1; injection e1 with _ e2; exact absurd e2 (by decide)
      have Hne1 := Lib.hid hne1
      clear hmv hrw hbb hrow h1 h2 h5 h6 hry hy hne1
      generalize hl1 : bs[j].1.length = l1 at *
      generalize hl2 : bs[j].2.length = l2 at *
      have Hl1 := Lib.hid hl1; have Hl2 := Lib.hid hl2; clear hl1 hl2
      go_wp2_with fail
      clear q1
      have e1 := Hy.out; subst e1
      refine (markJ_any HO1.out n (by omega)).mono ?_
      rintro e w1 ⟨rfl, o1, g1⟩
      have M1 : Hid (Mv lo hi w w1) := Lib.hid (Hmv.out.trans (Mv.grown g1 (fun g hg => by simp [Value.ownBlock] at hg; omega)))
      have R1 := Lib.hid (Rows2.step Hrw.out rfl o1 (marks_length _ _) Hry.out rfl g1)
      have B1 : Hid (w1.heap[b]? = some (.cells C 43 (0, 0))) := Lib.hid ((g1.block b (row_lt Hrow1.out) (fun e => Hne1.out (Option.some.inj e))).trans Hrow1.out)
      obtain ⟨zs, hz, hrz⟩ := R1.out b2 _ h4.1 h4.2 H6.out
      have HO2 := Lib.hid (OI.of_row hrz h4.1 (by unfold maxLen; have := Hl2.out; omega))
      have Hrz := Lib.hid hrz
      have hne2 : b ≠ b2 := fun e => by subst e; have hb := B1.out; unfold Row at hrz; rw [hrz] at hb; injection hb with e1; injection e1 with _ e2; exact absurd e2 (by decide)
      have Hne2 := Lib.hid hne2
      have q2 : w1.cell? ⟨b, j * 2 + 1, none⟩ = some (.slice (some ⟨b2, 0, none⟩) l2 l2) := by rw [cell_of_row _ _ _ _ _ _ B1.out]; exact H2.out
      have hz' : zs.length = l2 := hz.trans Hl2.out
      have Hz := Lib.hid hz'
      clear o1 g1 hz hz' hrz hne2
      go_wp2_with fail
      clear q2
      have e2 := Hz.out; subst e2
      refine (markJ_any HO2.out (n + ys.length) (by omega)).mono ?_
      rintro e w2 ⟨rfl, o2, g2⟩
      have M2 : Hid (Mv lo hi w w2) := Lib.hid (M1.out.trans (Mv.grown g2 (fun g hg => by simp [Value.ownBlock] at hg; omega)))
      have R2 := Lib.hid (Rows2.step R1.out rfl o2 (marks_length _ _) Hrz.out rfl g2)
      have B2 : Hid (w2.heap[b]? = w.heap[b]?) := Lib.hid (((g2.block b (row_lt B1.out) (fun e => Hne2.out (Option.some.inj e))).trans B1.out).trans Hrow.out.symm)
      clear o2 g2
      go_wp2
      go_roundw
      case rel => exact ⟨j + 1, n + ys.length + zs.length, by omega, by go_num, rfl, by omega, M2.out, R2.out, B2.out⟩
      case measure => simp [intOf]; omega
    · clear hmv hrw hbb hrow
      go_wp2
      go_ret
      exact ⟨⟨n, rfl⟩, Hmv.out⟩
end Go.Proofs.Ytbghekgghiamcaa
