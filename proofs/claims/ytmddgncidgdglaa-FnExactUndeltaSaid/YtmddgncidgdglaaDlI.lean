/- Numbers replaced by their differences and back: the program's side. No statement is proved here. -/
import Derived.Test.YtmddgncidgdglaaDlS
import Derived.Test.YtmddgncidgdglaaFiV
import Derived.Test.YtmddgncidgdglaaNuI
import Derived.Test.YtmddgncidgdglaaFre
import Derived.Test.YtmddgncidgdglaaOwn
namespace Go.Proofs.Ytmddgncidgdglaa
open Go.RowKit
set_option linter.unusedVariables false
/-- The row when t numbers have been replaced. -/
def cAt (s : ByteArray) (e : Nat → Int) (W t j : Nat) : UInt8 := if j < t * W then (dlL e W t).getD j 0 else s.data.toList.getD j 0
theorem cAt_zero (s : ByteArray) (e : Nat → Int) (W j : Nat) : cAt s e W 0 j = s.data.toList.getD j 0 := by unfold cAt; rw [if_neg (by omega)]
theorem cAt_succ (s : ByteArray) (e : Nat → Int) (W t j : Nat) : (if t * W ≤ j ∧ j < t * W + (leL (e t) W).length then (leL (e t) W).getD (j - t * W) 0 else cAt s e W t j) = cAt s e W (t + 1) j := by
  have h1 : (t + 1) * W = t * W + W := Nat.succ_mul t W
  rw [leL_length]
  unfold cAt
  rw [h1]
  by_cases hj : t * W ≤ j ∧ j < t * W + W
  · rw [if_pos hj, if_pos hj.2, dlL_succ, List.getD_eq_getElem?_getD, List.getD_eq_getElem?_getD, List.getElem?_append_right (by rw [dlL_length]; exact hj.1), dlL_length]
  · rw [if_neg hj]
    by_cases h2 : j < t * W
    · rw [if_pos h2, if_pos (by omega), dlL_succ, List.getD_eq_getElem?_getD, List.getD_eq_getElem?_getD, List.getElem?_append_left (by rw [dlL_length]; exact h2)]
    · rw [if_neg h2, if_neg (by omega)]
theorem cAt_end (s : ByteArray) (e : Nat → Int) (W : Nat) (h : s.size / W * W ≤ s.size) : (⟨((List.range s.size).map (cAt s e W (s.size / W))).toArray⟩ : ByteArray) = dlS s W e := by
  rw [dlS_eq]
  congr 2
  have hz : s.data.toList.length = s.size := by simp
  apply List.ext_getElem (by simp [dlL_length]; omega)
  intro i h1 h2
  simp only [List.getElem_map, List.getElem_range]
  unfold cAt
  by_cases hi : i < s.size / W * W
  · rw [if_pos hi, List.getElem_append_left (by rw [dlL_length]; exact hi), List.getD_eq_getElem?_getD, List.getElem?_eq_getElem (by rw [dlL_length]; exact hi)]
    rfl
  · simp at h1
    rw [if_neg hi, List.getElem_append_right (by rw [dlL_length]; omega), List.getD_eq_getElem?_getD, List.getElem?_eq_getElem (by omega), List.getElem_drop]
    simp only [Option.getD_some, dlL_length]
    congr 1
    omega
theorem RowB.sets {g n : Nat} : ∀ (l : List UInt8) (o : Nat) {w : World} {c : Nat → UInt8}, o + l.length ≤ n → RowB w g n c → RowB (w.setCells g o (l.map bv)) g n (fun j => if o ≤ j ∧ j < o + l.length then l.getD (j - o) 0 else c j)
  | [], o, w, c, _, h => h.congr (fun j _ => by rw [if_neg (by simp)])
  | b :: l, o, w, c, hl, h => by
    have h1 := RowB.sets l (o + 1) (by simp at hl; omega) (h.set o (by simp at hl; omega) b)
    refine RowB.congr h1 (fun j hj => ?_)
    simp only [List.length_cons]
    by_cases e1 : j = o
    · subst e1
      rw [if_neg (by omega), if_pos rfl, if_pos (by omega), Nat.sub_self]
      rfl
    · by_cases e2 : o + 1 ≤ j ∧ j < o + 1 + l.length
      · rw [if_pos e2, if_pos (by omega), show j - o = (j - (o + 1)) + 1 by omega]
        rfl
      · rw [if_neg e2, if_neg e1, if_neg (by omega)]
theorem RowB.same {w w' : World} {g n : Nat} {c : Nat → UInt8} (h : RowB w g n c) (hk : w'.heap[g]? = w.heap[g]?) : RowB w' g n c := fun j hj => by
  obtain ⟨h1, h2⟩ := h j hj
  have e1 : w'.cell? ⟨g, j, none⟩ = w.cell? ⟨g, j, none⟩ := by simp only [World.cell?, hk]
  have e2 : w'.frozen? ⟨g, j, none⟩ = w.frozen? ⟨g, j, none⟩ := by simp only [World.frozen?, hk]
  exact ⟨e1.trans h1, e2.trans h2⟩
/-- A cell of a number, and what a call leaves that writes it alone. -/
def NbA (w : World) (c : Nat) (z : Int) : Prop := w.heap[c]? = some (.cells #[.int .i64 z] 2 (0, 0))
def NbP (c : Nat) (v z : Int) (w : World) (e : Ending) (w' : World) : Prop := e = .returned (.int .i64 v) ∧ NbA w' c z ∧ (∀ k, k ≠ c → w'.heap[k]? = w.heap[k]?) ∧ w'.heap.size = w.heap.size ∧ Below c w w'
set_option maxRecDepth 100000 in
theorem delta_any {w : World} {c : Nat} {z n : Int} (h0 : -4294967296 ≤ n - z ∧ n - z ≤ 4294967296) (hc : NbA w c z) :
    Calls Try.prog 64 #[.int .i64 n, .pointer (some ⟨c, 0, none⟩)] w (NbP c (n - z) n w) := by
  have q0 : w.cell? ⟨c, 0, none⟩ = some (.int .i64 z) := by rw [cell_of_row _ _ _ _ _ _ hc]; rfl
  have f0 : w.frozen? ⟨c, 0, none⟩ = false := frozen_of_row _ _ _ _ _ hc
  have Hc := Lib.hid hc; clear hc
  have HS := Lib.hid (heap_setCell_same w c 0 _ _ (.int .i64 n) Hc.out)
  have HB : Hid (Below c w (w.setCell ⟨c, 0, none⟩ (.int .i64 n))) := Lib.hid ((Below.refl c w).setCell (p := ⟨c, 0, none⟩) (Nat.le_refl _) _)
  have hw : IntKind.i64.wrap (n - z) = n - z := IntWalk.i64_in _ (by omega)
  obtain ⟨d, hd⟩ : ∃ d, n - z = d := ⟨_, rfl⟩
  rw [hd] at hw h0 ⊢
  go_enter Try.func64, Try.ntmps64
  go_wp2
  go_ret
  exact ⟨rfl, HS.out, fun k hk => heap_setCell_other _ ⟨c, 0, none⟩ k _ hk, by simp, HB.out⟩
set_option maxRecDepth 100000 in
theorem undelta_any {w : World} {c : Nat} {z n : Int} (h0 : 0 ≤ z + n ∧ z + n ≤ 4294967296000000) (hc : NbA w c z) :
    Calls Try.prog 65 #[.int .i64 n, .pointer (some ⟨c, 0, none⟩)] w (NbP c (z + n) (z + n) w) := by
  have q0 : w.cell? ⟨c, 0, none⟩ = some (.int .i64 z) := by rw [cell_of_row _ _ _ _ _ _ hc]; rfl
  have f0 : w.frozen? ⟨c, 0, none⟩ = false := frozen_of_row _ _ _ _ _ hc
  have Hc := Lib.hid hc; clear hc
  obtain ⟨d, hd⟩ : ∃ d, z + n = d := ⟨_, rfl⟩
  rw [hd] at h0 ⊢
  have HS := Lib.hid (heap_setCell_same w c 0 _ _ (.int .i64 d) Hc.out)
  have HB : Hid (Below c w (w.setCell ⟨c, 0, none⟩ (.int .i64 d))) := Lib.hid ((Below.refl c w).setCell (p := ⟨c, 0, none⟩) (Nat.le_refl _) _)
  go_enter Try.func65, Try.ntmps65
  go_wp2
  go_ret
  exact ⟨rfl, HS.out, fun k hk => heap_setCell_other _ ⟨c, 0, none⟩ k _ hk, by simp, HB.out⟩
end Go.Proofs.Ytmddgncidgdglaa
