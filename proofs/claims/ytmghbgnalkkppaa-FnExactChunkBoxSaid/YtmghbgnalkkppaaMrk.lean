/- Lists of one's own, marked and held; contracts of the laws' functions that mark and hold lists, and of those that copy a list by append. No statement is proved here. -/
import Derived.Test.YtmghbgnalkkppaaPre
import Derived.Laws.AppendOwn
import Derived.Laws.OwnMore
namespace Go.Proofs.Ytmghbgnalkkppaa
open Go.RowKit
set_option linter.unusedVariables false
/-- A slice of one's own, in a block from lo on, that holds these numbers. -/
def OI (w : World) (lo : Nat) (v : Value) (xs : List Int) : Prop := w.ownsRow lo 2 1 v xs.length (xs.map (Value.int .i64))
theorem OI.slice {w : World} {lo : Nat} {v : Value} {xs : List Int} (h : OI w lo v xs) : (v = .slice none 0 0 ∧ xs = []) ∨ ∃ g cap, v = .slice (some ⟨g, 0, none⟩) xs.length cap ∧ lo ≤ g ∧ g < w.heap.size ∧ xs.length ≤ cap ∧ cap ≤ maxLen := by
  have hl := World.ownsRow.lt h
  rcases h.2 with ⟨rfl, h0⟩ | ⟨g, cap, cur, rfl, hb, hg, hn, hm, _⟩
  · exact .inl ⟨rfl, List.eq_nil_of_length_eq_zero h0⟩
  · exact .inr ⟨g, cap, rfl, hb, (hl g rfl).2, hn, hm⟩
theorem OI.cell {w : World} {lo : Nat} {g cap : Nat} {xs : List Int} (h : OI w lo (.slice (some ⟨g, 0, none⟩) xs.length cap) xs) (j : Nat) (hj : j < xs.length) : w.cell? ⟨g, j, none⟩ = some (.int .i64 xs[j]) := by
  have := World.ownsRow.cells (g := g) h rfl j (.int .i64 xs[j]) (by simp [hj])
  rw [add_at, Nat.zero_add] at this
  exact this
theorem OI.ri {w : World} {lo : Nat} {v : Value} {xs : List Int} (h : OI w lo v xs) (hi : ∀ x ∈ xs, InI x) : Ri w.heap.size w v xs := by
  rcases h.slice with ⟨rfl, rfl⟩ | ⟨g, cap, rfl, hlo, hg, hn, hm⟩
  · exact Ri.nil _ _
  · exact ⟨_, cap, rfl, hn, hm, fun i hi2 => ⟨g, 0, rfl, hg, by rw [Nat.zero_add]; exact h.cell i hi2, hi _ (List.getElem_mem hi2)⟩⟩
theorem OI.of_row {w : World} {lo b : Nat} {xs : List Int} (h : Row w b xs) (hlo : lo ≤ b) (hl : xs.length ≤ maxLen) : OI w lo (.slice (some ⟨b, 0, none⟩) xs.length xs.length) xs := by
  refine ⟨by simp, .inr ⟨b, xs.length, cellsI xs, rfl, hlo, h, Nat.le_refl _, hl, by rw [cellsI_size, Nat.mul_one], ?_⟩⟩
  rw [Nat.mul_one]
  simp only [cellsI]
  rw [List.take_of_length_le (by simp)]
theorem OI.set {w : World} {lo g cap : Nat} {xs : List Int} {n : Nat} (h : OI w lo (.slice (some ⟨g, 0, none⟩) n cap) xs) (j : Nat) (x : Int) (hj : j < xs.length) :
    OI (w.setCell ⟨g, j, none⟩ (.int .i64 x)) lo (.slice (some ⟨g, 0, none⟩) n cap) (xs.set j x) := by
  unfold OI at h ⊢
  rcases h.2 with ⟨h0, _⟩ | ⟨g', cap', cur, he, hb, hg, hnc, hm, hcs, htake⟩
  · cases h0
  · cases he
    refine ⟨by simp, .inr ⟨g, cap, cur.setIfInBounds j (.int .i64 x), by rw [List.length_set], hb, heap_setCell_same _ _ _ _ _ _ hg, by simpa using hnc, hm, by simpa using hcs, ?_⟩⟩
    rw [List.length_set, Array.toList_setIfInBounds, List.take_set, htake, List.map_set]
theorem grown_refl (w : World) (row : Option Nat) : w.grownBy w row := ⟨rfl, rfl, rfl, Nat.le_refl _, fun _ _ _ => rfl⟩
theorem grown_set (w : World) (g j : Nat) (u : Value) : w.grownBy (w.setCell ⟨g, j, none⟩ u) (some g) :=
  ⟨rfl, rfl, rfl, by simp [World.setCell], fun k _ hne => heap_setCell_other w ⟨g, j, none⟩ k u (fun e => hne (by rw [e]))⟩
theorem grown_trans {a b c : World} {row : Option Nat} (h : a.grownBy b row) (k : b.grownBy c row) : a.grownBy c row :=
  ⟨k.os.trans h.os, k.tape.trans h.tape, k.output.trans h.output, Nat.le_trans h.size k.size, fun i hi hne => (k.block i (Nat.lt_of_lt_of_le hi h.size) hne).trans (h.block i hi hne)⟩
/-- k, k + 1, .. -/
def marks (k n : Nat) : List Int := (List.range n).map fun i => ((k + i : Nat) : Int)
theorem marks_length (k n : Nat) : (marks k n).length = n := by simp [marks]
theorem marks_at (k n i : Nat) (h : i < (marks k n).length) : (marks k n)[i] = ((k + i : Nat) : Int) := by simp [marks]
def mkd (k : Nat) (xs : List Int) (j : Nat) : List Int := marks k j ++ xs.drop j
theorem mkd_length (k : Nat) (xs : List Int) (j : Nat) (h : j ≤ xs.length) : (mkd k xs j).length = xs.length := by
  unfold mkd; rw [List.length_append, marks_length, List.length_drop]; omega
theorem mkd_step (k : Nat) (xs : List Int) (j : Nat) (h : j < xs.length) : (mkd k xs j).set j ((k + j : Nat) : Int) = mkd k xs (j + 1) := by
  unfold mkd
  rw [List.set_append, if_neg (by rw [marks_length]; omega), marks_length, Nat.sub_self]
  rw [List.drop_eq_getElem_cons h, List.set_cons_zero]
  simp [marks, List.range_succ]
theorem mkd_end (k : Nat) (xs : List Int) : mkd k xs xs.length = marks k xs.length := by
  unfold mkd; simp
set_option maxHeartbeats 400000 in
theorem markI_any {w : World} {lo : Nat} {v : Value} {xs : List Int} (h : OI w lo v xs) (k : Nat) (hk : k + xs.length ≤ 8000000) :
    Calls Try.prog 17 #[v, .int .i64 (k : Int)] w fun e w' => e = .returned (.int .i64 ((k + xs.length : Nat) : Int)) ∧ OI w' lo v (marks k xs.length) ∧ w.grownBy w' v.ownBlock := by
  have H := Lib.hid h
  rcases h.slice with ⟨rfl, rfl⟩ | ⟨g, cap, rfl, hlo, hg, hn, hm⟩
  · go_enter Try.func17, Try.ntmps17
    go_wp2
    go_loop [1, 5] (fun c i => i = .int .i64 0 ∧ c = .int .i64 (k : Int)) (fun _ _ => 0)
    case atStart => exact ⟨rfl, rfl⟩
    case round =>
      obtain ⟨rfl, rfl⟩ := hrel
      go_wp2
      go_ret
      exact ⟨rfl, H.out, grown_refl _ _⟩
  · unfold maxLen at hm
    clear h
    go_enter Try.func17, Try.ntmps17
    go_wp2
    go_loopw [1, 5] (fun c i wr => ∃ j : Nat, j ≤ xs.length ∧ i = .int .i64 (j : Int) ∧ c = .int .i64 ((k + j : Nat) : Int) ∧ OI wr lo (.slice (some ⟨g, 0, none⟩) xs.length cap) (mkd k xs j) ∧ w.grownBy wr (some g)) (fun _ i _ => xs.length - (intOf i).toNat)
    case atStart => exact ⟨0, Nat.zero_le _, rfl, rfl, H.out, grown_refl _ _⟩
    case round =>
      obtain ⟨j, hj, rfl, rfl, hown, hgr⟩ := hrel
      have Hown := Lib.hid hown; have Hgr := Lib.hid hgr
      clear hgr
      by_cases hlt : j < xs.length
      · have Hlen := Lib.hid (mkd_length k xs j hj)
        obtain ⟨u, hu⟩ : ∃ u, wr.cell? ⟨g, j, none⟩ = some u := by
          have := World.ownsRow.cells (g := g) hown rfl j (.int .i64 ((mkd k xs j)[j]'(by rw [Hlen.out]; exact hlt))) (by simp [Hlen.out, hlt])
          rw [add_at, Nat.zero_add] at this
          exact ⟨_, this⟩
        have hfz : wr.frozen? ⟨g, j, none⟩ = false := by
          rcases hown.2 with ⟨h0, _⟩ | ⟨g', cap', cur, he, hb, hgg, _⟩
          · cases h0
          · have e : g = g' := by simp only [Value.slice.injEq, Option.some.injEq, Addr.mk.injEq] at he; exact he.1.1
            subst e
            exact frozen_of_row _ _ _ _ _ hgg
        have Hset : Hid (OI (wr.setCell ⟨g, j, none⟩ (.int .i64 ((k + j : Nat) : Int))) lo (.slice (some ⟨g, 0, none⟩) xs.length cap) (mkd k xs (j + 1))) := Lib.hid (by
          rw [← mkd_step k xs j hlt]
          exact hown.set j _ (by rw [Hlen.out]; exact hlt))
        have Hgr2 : Hid (w.grownBy (wr.setCell ⟨g, j, none⟩ (.int .i64 ((k + j : Nat) : Int))) (some g)) := Lib.hid (grown_trans Hgr.out (grown_set _ _ _ _))
        clear hown
        go_wp2
        go_roundw
        case rel => exact ⟨j + 1, by omega, by go_num, by go_num, Hset.out, Hgr2.out⟩
        case measure => simp [intOf]; omega
      · obtain rfl : j = xs.length := by omega
        have Hend : Hid (OI wr lo (.slice (some ⟨g, 0, none⟩) xs.length cap) (marks k xs.length)) := Lib.hid (mkd_end k xs ▸ hown)
        clear hown
        go_wp2
        go_ret
        exact ⟨rfl, Hend.out, Hgr.out⟩
set_option maxHeartbeats 400000 in
theorem heldI_any {w : World} {lo n : Nat} {v : Value} (k : Nat) (h : OI w lo v (marks k n)) (hk : k + n ≤ 8000000) :
    Calls Try.prog 18 #[v, .int .i64 (k : Int)] w (Quiet (.int .i64 ((k + n : Nat) : Int)) w) := by
  have H := Lib.hid h
  have Hl := Lib.hid (marks_length k n)
  rcases h.slice with ⟨rfl, h0⟩ | ⟨g, cap, rfl, hlo, hg, hn, hm⟩
  · obtain rfl : n = 0 := by have := Hl.out; rw [h0] at this; exact this.symm
    clear h h0 H Hl
    go_enter Try.func18, Try.ntmps18
    go_wp2
    go_loop [1, 5] (fun c i => i = .int .i64 0 ∧ c = .int .i64 (k : Int)) (fun _ _ => 0)
    case atStart => exact ⟨rfl, rfl⟩
    case round =>
      obtain ⟨rfl, rfl⟩ := hrel
      go_wp2
      go_ret
      exact ⟨rfl, rfl⟩
  · rw [Hl.out] at hn
    have Hc : Hid (∀ j, j < n → w.cell? ⟨g, j, none⟩ = some (.int .i64 ((k + j : Nat) : Int))) := Lib.hid (fun j hj => by
      have := h.cell j (by rw [Hl.out]; exact hj)
      rw [marks_at] at this
      exact this)
    unfold maxLen at hm
    clear h H
    rw [Hl.out]
    clear Hl
    go_enter Try.func18, Try.ntmps18
    go_wp2
    go_loop [1, 5] (fun c i => ∃ j : Nat, j ≤ n ∧ i = .int .i64 (j : Int) ∧ c = .int .i64 ((k + j : Nat) : Int)) (fun _ i => n - (intOf i).toNat)
    case atStart => exact ⟨0, Nat.zero_le _, rfl, rfl⟩
    case round =>
      obtain ⟨j, hj, rfl, rfl⟩ := hrel
      by_cases hlt : j < n
      · have hc := Hc.out j hlt
        go_wp2
        go_round
        case rel => exact ⟨j + 1, by omega, by go_num, by go_num⟩
        case measure => simp [intOf]; omega
      · obtain rfl : j = n := by omega
        go_wp2
        go_ret
        exact ⟨rfl, rfl⟩
end Go.Proofs.Ytmghbgnalkkppaa
