/- Which entries and which nodes are valid, and the contracts of single entries and of keys that rise: both sides. No statement is proved here. -/
import Derived.Test.YtabnglimchjgpaaNod
import Derived.Test.YtabnglimchjgpaaIdx
import Derived.Test.YtabnglimchjgpaaHeld
namespace Go.Proofs.Ytabnglimchjgpaa
open Go.RowKit
set_option linter.unusedVariables false
def chOk (c : EC) : Bool := (inB c.1 0 65535 && inB c.2.1 1 255) && (inB c.2.2.1 0 65535 && inB c.2.2.2 0 255)
/-- The key at a place is a key and is above the one ahead of it. -/
def rz (xs : List Int) (i : Nat) : Bool := inB (xs.getD i 0) 0 65535 && (decide (i = 0) || decide (xs.getD (i - 1) 0 < xs.getD i 0))
def rises (xs : List Int) : Bool := allTo (rz xs) xs.length
def keyL (cs : List EC) : List Int := cs.map (·.1)
def chAt (cs : List EC) (i : Nat) : Bool := chOk (cs.getD i (0, 0, 0, 0))
def kidAt (ds : List Int) (i : Nat) : Bool := inB (ds.getD i 0) 1 255
def nodeOk (lf : Bool) (cs : List EC) (ks ds : List Int) : Bool :=
  if lf then (decide (cs.length ≤ 8) && (decide (ks.length = 0) && decide (ds.length = 0))) && (rises (keyL cs) && allTo (chAt cs) cs.length)
  else ((inB ks.length 1 7 && decide (ds.length = ks.length + 1)) && decide (cs.length = 0)) && (rises ks && allTo (kidAt ds) ds.length)
theorem getD_in {α : Type} {xs : List α} {i : Nat} (h : i < xs.length) (z : α) : xs.getD i z = xs[i] := by rw [List.getD_eq_getElem?_getD, List.getElem?_eq_getElem h]; rfl
theorem keyL_len (cs : List EC) : (keyL cs).length = cs.length := by simp [keyL]
theorem keyL_at {cs : List EC} {i : Nat} (h : i < cs.length) : (keyL cs).getD i 0 = cs[i].1 := by rw [getD_in (by rw [keyL_len]; exact h)]; simp [keyL]
theorem chAt_at {cs : List EC} {i : Nat} (h : i < cs.length) : chAt cs i = chOk cs[i] := by unfold chAt; rw [getD_in h]
theorem kidAt_at {ds : List Int} {i : Nat} (h : i < ds.length) : kidAt ds i = inB ds[i] 1 255 := by unfold kidAt; rw [getD_in h]
theorem rz_zero {xs : List Int} (h : 0 < xs.length) : rz xs 0 = inB xs[0] 0 65535 := by unfold rz; rw [getD_in h]; simp
theorem rz_succ {xs : List Int} {i : Nat} (h : i + 1 < xs.length) : rz xs (i + 1) = (inB xs[i + 1] 0 65535 && decide (xs[i] < xs[i + 1])) := by
  unfold rz
  rw [getD_in h, Nat.add_sub_cancel, getD_in (by omega)]
  simp
set_option maxHeartbeats 1000000 in
set_option maxRecDepth 100000 in
theorem isInvalidPlace_any (a : Int) (w : World) : Calls Try.prog 85 #[.int .i64 a] w (Quiet (.bool (!inB a 1 255)) w) := by
  have HP : Hid ((!inB a 1 255) = (decide (a < 1) || decide (256 ≤ a))) := Lib.hid (by unfold inB; rw [Bool.eq_iff_iff]; simp; omega)
  rw [HP.out]; clear HP
  by_cases h1 : a < 1
  · have e1 := decide_eq_true h1
    rw [e1]
    go_enter Try.func85, Try.ntmps85
    go_wp2
    go_ret
    exact ⟨rfl, rfl⟩
  · have e1 := decide_eq_false h1
    rw [e1]
    go_enter Try.func85, Try.ntmps85
    go_wp2
    go_ret
    exact ⟨by simp, rfl⟩
set_option maxHeartbeats 1000000 in
set_option maxRecDepth 100000 in
theorem l15Chunk_any (n0 n1 n2 n3 : Int) (w : World) : Calls Try.prog 106 #[.agg #[.int .i64 n0, .int .i64 n1, .int .i64 n2, .int .i64 n3]] w (GivesB (.bool (chOk (n0, n1, n2, n3))) w) := by
  have HP : Hid (chOk (n0, n1, n2, n3) = ((inB n0 0 65535 && inB n1 1 255) && (inB n2 0 65535 && inB n3 0 255))) := Lib.hid rfl
  generalize chOk (n0, n1, n2, n3) = r at *
  generalize h0 : inB n0 0 65535 = b0 at *; generalize h1 : inB n1 1 255 = b1 at *; generalize h2 : inB n2 0 65535 = b2 at *; generalize h3 : inB n3 0 255 = b3 at *
  have E0 := Lib.hid h0; have E1 := Lib.hid h1; have E2 := Lib.hid h2; have E3 := Lib.hid h3; clear h0 h1 h2 h3
  have q0 : (w.alloc (.cells #[.int .i64 n0, .int .i64 n1, .int .i64 n2, .int .i64 n3] 106)).cell? ⟨w.heap.size, 0, none⟩ = some (.int .i64 n0) := by rw [cell_of_row _ _ _ _ _ _ (heap_alloc_new w _)]; rfl
  have q1 : (w.alloc (.cells #[.int .i64 n0, .int .i64 n1, .int .i64 n2, .int .i64 n3] 106)).cell? ⟨w.heap.size, 1, none⟩ = some (.int .i64 n1) := by rw [cell_of_row _ _ _ _ _ _ (heap_alloc_new w _)]; rfl
  have q2 : (w.alloc (.cells #[.int .i64 n0, .int .i64 n1, .int .i64 n2, .int .i64 n3] 106)).cell? ⟨w.heap.size, 2, none⟩ = some (.int .i64 n2) := by rw [cell_of_row _ _ _ _ _ _ (heap_alloc_new w _)]; rfl
  have q3 : (w.alloc (.cells #[.int .i64 n0, .int .i64 n1, .int .i64 n2, .int .i64 n3] 106)).cell? ⟨w.heap.size, 3, none⟩ = some (.int .i64 n3) := by rw [cell_of_row _ _ _ _ _ _ (heap_alloc_new w _)]; rfl
  have HB0 : Hid (Below w.heap.size w (w.alloc (.cells #[.int .i64 n0, .int .i64 n1, .int .i64 n2, .int .i64 n3] 106))) := Lib.hid ((Below.refl _ w).alloc (Nat.le_refl _) _)
  cases b0 <;> cases b1 <;> cases b2 <;> cases b3
  all_goals
    go_enter Try.func106, Try.ntmps106
    go_wp2_with (go_at_call 63; refine (l00In_any _ _ _ _).mono ?_; rintro e w' ⟨rfl, rfl⟩; first | rw [E0.out] | rw [E1.out] | rw [E2.out] | rw [E3.out])
    go_ret
    exact ⟨by rw [HP.out]; rfl, HB0.out⟩
set_option maxHeartbeats 1000000 in
set_option maxRecDepth 100000 in
theorem isInvalidChunk_any (n0 n1 n2 n3 : Int) (w : World) : Calls Try.prog 83 #[.agg #[.int .i64 n0, .int .i64 n1, .int .i64 n2, .int .i64 n3]] w (GivesB (.bool (!chOk (n0, n1, n2, n3))) w) := by
  have HP : Hid ((!chOk (n0, n1, n2, n3)) = ((((((decide (n0 < 0) || decide (65535 < n0)) || !inB n1 1 255) || decide (n2 < 0)) || decide (65535 < n2)) || decide (n3 < 0)) || decide (255 < n3))) := Lib.hid (by
    unfold chOk inB; rw [Bool.eq_iff_iff]; simp; omega)
  generalize (!chOk (n0, n1, n2, n3)) = r at *
  have C1 := Lib.hid (isInvalidPlace_any n1)
  generalize (!inB n1 1 255) = b1 at *
  have q0 : (w.alloc (.cells #[.int .i64 n0, .int .i64 n1, .int .i64 n2, .int .i64 n3] 106)).cell? ⟨w.heap.size, 0, none⟩ = some (.int .i64 n0) := by rw [cell_of_row _ _ _ _ _ _ (heap_alloc_new w _)]; rfl
  have q1 : (w.alloc (.cells #[.int .i64 n0, .int .i64 n1, .int .i64 n2, .int .i64 n3] 106)).cell? ⟨w.heap.size, 1, none⟩ = some (.int .i64 n1) := by rw [cell_of_row _ _ _ _ _ _ (heap_alloc_new w _)]; rfl
  have q2 : (w.alloc (.cells #[.int .i64 n0, .int .i64 n1, .int .i64 n2, .int .i64 n3] 106)).cell? ⟨w.heap.size, 2, none⟩ = some (.int .i64 n2) := by rw [cell_of_row _ _ _ _ _ _ (heap_alloc_new w _)]; rfl
  have q3 : (w.alloc (.cells #[.int .i64 n0, .int .i64 n1, .int .i64 n2, .int .i64 n3] 106)).cell? ⟨w.heap.size, 3, none⟩ = some (.int .i64 n3) := by rw [cell_of_row _ _ _ _ _ _ (heap_alloc_new w _)]; rfl
  have HB0 : Hid (Below w.heap.size w (w.alloc (.cells #[.int .i64 n0, .int .i64 n1, .int .i64 n2, .int .i64 n3] 106))) := Lib.hid ((Below.refl _ w).alloc (Nat.le_refl _) _)
  generalize h0 : decide (n0 < 0) = d0 at *; generalize h1 : decide (65535 < n0) = d1 at *; generalize h2 : decide (n2 < 0) = d2 at *; generalize h3 : decide (65535 < n2) = d3 at *; generalize h4 : decide (n3 < 0) = d4 at *; generalize h5 : decide (255 < n3) = d5 at *
  cases d0
  rotate_left 1
  · go_enter Try.func83, Try.ntmps83
    go_wp2_with (go_at_call 85; refine (C1.out _).mono ?_; rintro e w' ⟨rfl, rfl⟩)
    go_ret
    exact ⟨by rw [HP.out]; rfl, HB0.out⟩
  cases d1
  rotate_left 1
  · go_enter Try.func83, Try.ntmps83
    go_wp2_with (go_at_call 85; refine (C1.out _).mono ?_; rintro e w' ⟨rfl, rfl⟩)
    go_ret
    exact ⟨by rw [HP.out]; rfl, HB0.out⟩
  cases b1
  rotate_left 1
  · go_enter Try.func83, Try.ntmps83
    go_wp2_with (go_at_call 85; refine (C1.out _).mono ?_; rintro e w' ⟨rfl, rfl⟩)
    go_ret
    exact ⟨by rw [HP.out]; rfl, HB0.out⟩
  cases d2 <;> cases d3 <;> cases d4
  all_goals
    go_enter Try.func83, Try.ntmps83
    go_wp2_with (go_at_call 85; refine (C1.out _).mono ?_; rintro e w' ⟨rfl, rfl⟩)
    go_ret
    exact ⟨by rw [HP.out]; rfl, HB0.out⟩
end Go.Proofs.Ytabnglimchjgpaa
