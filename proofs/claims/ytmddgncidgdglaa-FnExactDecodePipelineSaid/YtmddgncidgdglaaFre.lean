/- The program's reader of fields: what it takes from the start of a string. No statement is proved here. -/
import Derived.Test.YtmddgncidgdglaaGetU
namespace Go.Proofs.Ytmddgncidgdglaa
open Go.RowKit
set_option linter.unusedVariables false
/-- The number that lies at a place, 0 if it is no int64. -/
def gV (s : ByteArray) (a m : Nat) : Int := if leVal (cutL s a m) < 9223372036854775808 then leVal (cutL s a m) else 0
def gB (s : ByteArray) (a m : Nat) : Bool := decide (leVal (cutL s a m) < 9223372036854775808)
theorem getU_gV (s : ByteArray) (a m : Nat) (h1 : 1 ≤ m) (h8 : m ≤ 8) (h : a + m ≤ s.size) : getU s a m = .tuple #[.int .i64 (gV s a m), .bool (gB s a m)] := by
  unfold getU
  rw [if_pos ⟨by omega, by omega, by omega, by omega⟩]
  unfold uOk gV gB
  simp only [Int.toNat_natCast]
  split
  · rename_i h; rw [decide_eq_true h]
  · rename_i h; rw [decide_eq_false h]
theorem gV_in (s : ByteArray) (a m : Nat) : 0 ≤ gV s a m ∧ gV s a m < 9223372036854775808 := by
  unfold gV
  have := leVal_nonneg (cutL s a m)
  split <;> omega

/-- What is taken from the start, and what is left. -/
def fT (s : ByteArray) (m : Nat) : ByteArray := s.extract 0 (min m s.size)
def fR (s : ByteArray) (m : Nat) : ByteArray := s.extract (min m s.size) s.size
theorem fT_size (s : ByteArray) (m : Nat) : (fT s m).size = min m s.size := by simp [fT]
theorem fR_size (s : ByteArray) (m : Nat) : (fR s m).size = s.size - min m s.size := by simp [fR]
/-- What a fieldReader's cell holds. -/
def FrA (w : World) (c : Nat) (s : ByteArray) : Prop := w.heap[c]? = some (.cells #[.string s] 64 (0, 0))
def FrP (c : Nat) (v : Value) (t : ByteArray) (w : World) (e : Ending) (w' : World) : Prop := e = .returned v ∧ FrA w' c t ∧ (∀ k, k ≠ c → w'.heap[k]? = w.heap[k]?) ∧ w'.heap.size = w.heap.size ∧ Below c w w'
set_option maxHeartbeats 1000000 in
theorem frBytes_any {w : World} {c m : Nat} {s : ByteArray} (hs : s.size ≤ 1048576) (hm : m ≤ 1048576) (hc : FrA w c s) :
    Calls Try.prog 68 #[.pointer (some ⟨c, 0, none⟩), .int .i64 m] w (FrP c (.string (fT s m)) (fR s m) w) := by
  have q0 : w.cell? ⟨c, 0, none⟩ = some (.string s) := by rw [cell_of_row _ _ _ _ _ _ hc]; rfl
  have f0 : w.frozen? ⟨c, 0, none⟩ = false := frozen_of_row _ _ _ _ _ hc
  have Hc := Lib.hid hc; clear hc
  by_cases h : m ≤ s.size
  · have hmn : min (m : Int) (s.size : Int) = m := by omega
    have HT : Hid (fT s m = s.extract 0 m ∧ fR s m = s.extract m s.size) := Lib.hid (by unfold fT fR; rw [Nat.min_eq_left h]; exact ⟨rfl, rfl⟩)
    go_enter Try.func68, Try.ntmps68
    go_wp2
    go_region
    simp only [Exit.then]
    clear q0 f0
    have Hc2 : Hid (FrA w.drew c s) := Hc
    have q0 : w.drew.cell? ⟨c, 0, none⟩ = some (.string s) := by rw [cell_of_row _ _ _ _ _ _ Hc2.out]; rfl
    have f0 : w.drew.frozen? ⟨c, 0, none⟩ = false := frozen_of_row _ _ _ _ _ Hc2.out
    have HS := Lib.hid (heap_setCell_same w.drew c 0 _ _ (.string (s.extract m s.size)) Hc2.out)
    have HB : Hid (Below c w (w.drew.setCell ⟨c, 0, none⟩ (.string (s.extract m s.size)))) := Lib.hid (((Below.refl c w).drew).setCell (p := ⟨c, 0, none⟩) (Nat.le_refl _) _)
    go_wp2
    go_ret
    exact ⟨by rw [HT.out.1]; rfl, by unfold FrA; rw [HT.out.2]; exact HS.out, fun k hk => heap_setCell_other _ ⟨c, 0, none⟩ k _ hk, by simp, HB.out⟩
  · have hmn : min (m : Int) (s.size : Int) = s.size := by omega
    have HT : Hid (fT s m = s ∧ fR s m = ByteArray.empty) := Lib.hid (by unfold fT fR; rw [Nat.min_eq_right (by omega)]; exact ⟨by simp, by simp⟩)
    go_enter Try.func68, Try.ntmps68
    go_wp2
    go_region
    simp only [Exit.then]
    clear q0 f0
    have Hc2 : Hid (FrA w.drew c s) := Hc
    have q0 : w.drew.cell? ⟨c, 0, none⟩ = some (.string s) := by rw [cell_of_row _ _ _ _ _ _ Hc2.out]; rfl
    have f0 : w.drew.frozen? ⟨c, 0, none⟩ = false := frozen_of_row _ _ _ _ _ Hc2.out
    have HS := Lib.hid (heap_setCell_same w c 0 _ _ (.string (ByteArray.empty)) Hc.out)
    have HB : Hid (Below c w (w.setCell ⟨c, 0, none⟩ (.string (ByteArray.empty))).drew) := Lib.hid (((Below.refl c w).setCell (p := ⟨c, 0, none⟩) (Nat.le_refl _) _).drew)
    go_wp2
    go_ret
    exact ⟨by rw [HT.out.1]; rfl, by unfold FrA; rw [HT.out.2]; exact HS.out, fun k hk => heap_setCell_other _ ⟨c, 0, none⟩ k _ hk, by simp, HB.out⟩
theorem cutL_take (s : ByteArray) (m : Nat) : cutL (s.extract 0 m) 0 m = cutL s 0 m := by
  unfold cutL
  simp [List.take_take]
theorem gV_take (s : ByteArray) (m : Nat) : gV (s.extract 0 m) 0 m = gV s 0 m := by unfold gV; rw [cutL_take]
theorem cutL_rest (s : ByteArray) (a m e : Nat) (h : a + m ≤ e) : cutL (s.extract a e) 0 m = cutL s a m := by
  unfold cutL
  simp only [ByteArray.data_extract, Array.toList_extract, List.extract_eq_take_drop, List.drop_zero, List.take_take]
  rw [Nat.min_eq_left (by omega)]
theorem gV_rest (s : ByteArray) (a m e : Nat) (h : a + m ≤ e) : gV (s.extract a e) 0 m = gV s a m := by unfold gV; rw [cutL_rest s a m e h]
/-- The number that is read: 0 if something is missing. -/
def nV (s : ByteArray) (m : Nat) : Int := if m ≤ s.size then gV s 0 m else 0
theorem nV_in (s : ByteArray) (m : Nat) : 0 ≤ nV s m ∧ nV s m < 9223372036854775808 := by
  unfold nV; split
  · exact gV_in s 0 m
  · omega
set_option maxHeartbeats 1000000 in
theorem frNumber_any {w : World} {c m : Nat} {s : ByteArray} (hs : s.size ≤ 1048576) (h1 : 1 ≤ m) (h8 : m ≤ 8) (hc : FrA w c s) :
    Calls Try.prog 67 #[.pointer (some ⟨c, 0, none⟩), .int .i64 m] w (FrP c (.int .i64 (nV s m)) (fR s m) w) := by
  have C1 := Lib.hid (frBytes_any hs (show m ≤ 1048576 by omega) hc)
  have hz : (fT s m).size ≤ 1048576 := by rw [fT_size]; omega
  have C2 := Lib.hid (fun W => implGetUint_any (fT s m) 0 m (by omega) hz W)
  have HV : Hid (∃ ok, getU (fT s m) 0 m = .tuple #[.int .i64 (nV s m), .bool ok]) := Lib.hid (by
    unfold nV
    by_cases h : m ≤ s.size
    · have e : fT s m = s.extract 0 m := by unfold fT; rw [Nat.min_eq_left h]
      have := getU_gV (fT s m) 0 m h1 h8 (by rw [fT_size]; omega)
      rw [if_pos h, ← gV_take, ← e]
      exact ⟨_, this⟩
    · rw [if_neg h]
      unfold getU
      rw [if_neg (by rw [fT_size]; omega)]
      exact ⟨_, rfl⟩)
  generalize nV s m = x at *
  generalize getU (fT s m) 0 m = y at *
  obtain ⟨ok, hy⟩ := HV.out
  clear HV
  subst hy
  clear hs hz
  generalize fT s m = t at *
  generalize fR s m = u at *
  go_enter Try.func67, Try.ntmps67
  go_wp2_with fail
  refine C1.out.mono ?_
  rintro e w1 ⟨rfl, hp⟩
  have Hp := Lib.hid hp; clear hp
  go_wp2_with ((go_at_call 94; refine (C2.out _).mono ?_; rintro e w' ⟨rfl, rfl⟩))
  go_ret
  exact ⟨rfl, Hp.out⟩
end Go.Proofs.Ytmddgncidgdglaa
