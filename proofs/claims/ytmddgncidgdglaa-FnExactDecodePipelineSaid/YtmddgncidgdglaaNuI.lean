/- Contracts of the functions that write and read numbers as bytes: the program's and the model's. No statement is proved here. -/
import Derived.Test.YtmddgncidgdglaaByt
namespace Go.Proofs.Ytmddgncidgdglaa
open Go.RowKit
set_option linter.unusedVariables false

theorem OwnB.set {w : World} {B g n cap : Nat} {l : List UInt8} (h : OwnB w B (.slice (some ⟨g, 0, none⟩) n cap) l) (hn : n = l.length) (j : Nat) (b : UInt8) :
    OwnB (w.setCell ⟨g, j, none⟩ (bv b)) B (.slice (some ⟨g, 0, none⟩) n cap) (l.set j b) := by
  subst hn
  have := (World.ownsRow.stored h j (bv b)).1
  unfold OwnB
  rw [List.map_set, List.length_set]
  exact this
theorem le_step (n : Int) (k m : Nat) (h : k < m) : (leL n k ++ List.replicate (m - k) (0 : UInt8)).set k (byteOf n k) = leL n (k + 1) ++ List.replicate (m - (k + 1)) (0 : UInt8) := by
  have : m - k = (m - (k + 1)) + 1 := by omega
  rw [this, List.replicate_succ, List.set_append_right _ _ (by rw [leL_length]; exact Nat.le_refl _), leL_length, leL_succ]
  simp
theorem le_any (n : Int) (s : Int) (h0 : 0 ≤ n) (hn : n < 18446744073709551616) (h1 : 1 ≤ s) (h8 : s ≤ 8) (w : World) :
    Calls Try.prog 95 #[.int .u64 n, .int .i64 s] w fun e w' => e = .returned (.string (leS n s.toNat)) ∧ Below w.heap.size w w' := by
  obtain ⟨m, rfl⟩ := Int.eq_ofNat_of_zero_le (by omega : 0 ≤ s)
  obtain ⟨i0, hi, hz0, hz1, hz2⟩ := info_parts Try.infoB
  obtain ⟨w1, hrun, hown, hg⟩ := run_make_full (P := Try.prog) w w.heap.size 62 5 i0 (.int .u8 0) 1 Try.underlying62 hi hz0 hz1 .i64 .i64 m (by rw [hz2]; omega) (by unfold maxLen; omega) (Nat.le_refl _)
  rw [made_zero] at hown
  have hown : OwnB w1 w.heap.size (.slice (some ⟨w.heap.size, 0, none⟩) m m) (leL n 0 ++ List.replicate (m - 0) (0 : UInt8)) := by
    have e : (leL n 0 ++ List.replicate (m - 0) (0 : UInt8)) = List.replicate m 0 := by simp [leL]
    rw [e]; unfold OwnB; rw [List.length_replicate]; exact hown
  have hbel : Below w.heap.size w w1 := (Below.refl _ _).grown hg (Nat.le_refl _) (fun k hk => by cases hk)
  clear hi hz0 hz1 hz2 hg
  have Hown := Lib.hid hown; clear hown
  go_enter Try.func95, Try.ntmps95
  go_wp2
  go_loopw [6, 11] (fun _ i wr => ∃ k : Nat, k ≤ m ∧ i = .int .i64 k ∧ OwnB wr w.heap.size (.slice (some ⟨w.heap.size, 0, none⟩) m m) (leL n k ++ List.replicate (m - k) (0 : UInt8)) ∧ Below w.heap.size w wr) (fun _ i _ => m - (intOf i).toNat)
  case atStart => exact ⟨0, Nat.zero_le _, rfl, Hown.out, hbel⟩
  case round =>
    obtain ⟨k, hk, rfl, hown, hbel⟩ := hrel
    have hl : (leL n k ++ List.replicate (m - k) (0 : UInt8)).length = m := by simp [leL_length]; omega
    by_cases hlt : k < m
    · have hfz : wr.frozen? ⟨w.heap.size, k, none⟩ = false := by
        unfold OwnB at hown; rw [hl] at hown; exact World.ownsRow.frozenAt hown k
      have hc0 : wr.cell? ⟨w.heap.size, k, none⟩ = some (.int .u8 0) := by
        have := World.ownsRow.cells (g := w.heap.size) hown rfl k (.int .u8 0) (by
          rw [List.map_append, List.getElem?_append_right (by rw [List.length_map, leL_length]; exact Nat.le_refl _), List.length_map, leL_length, Nat.sub_self]
          simp [bv, List.getElem?_replicate]; omega)
        rwa [add_none] at this
      have hset := OwnB.set hown hl.symm k (byteOf n k)
      rw [le_step n k m hlt] at hset
      have ebv : bv (byteOf n k) = .int .u8 (n / 2 ^ (8 * k) % 256) := by simp [bv, byteOf_toNat]
      rw [ebv] at hset
      clear ebv
      have Hset := Lib.hid hset; have Hown2 := Lib.hid hown; have Hl := Lib.hid hl
      clear hset hown hl
      go_wp2
      go_roundw
      case rel => exact ⟨k + 1, by omega, by go_num, Hset.out, hbel.setCell (Nat.le_refl _) _⟩
      case measure => simp [intOf]; omega
    · have hkm : k = m := by omega
      subst hkm
      have e : leL n k ++ List.replicate (k - k) (0 : UInt8) = leL n k := by simp
      rw [e] at hown
      have hc := conv_own hown
      have Hown := Lib.hid hown; clear hown e hl
      go_wp2
      go_ret
      refine ⟨?_, hbel⟩
      simp [leS]
def putU (n s : Int) : ByteArray := if 1 ≤ s ∧ s ≤ 8 ∧ 0 ≤ n ∧ n / 2 ^ (8 * s.toNat) = 0 then leS n s.toNat else ⟨#[]⟩
theorem putU_no {n s : Int} (h : ¬ (1 ≤ s ∧ s ≤ 8 ∧ 0 ≤ n ∧ n / 2 ^ (8 * s.toNat) = 0)) : putU n s = ⟨#[]⟩ := if_neg h
theorem putU_yes {n s : Int} (h : 1 ≤ s ∧ s ≤ 8 ∧ 0 ≤ n ∧ n / 2 ^ (8 * s.toNat) = 0) : putU n s = leS n s.toNat := if_pos h
theorem implPutUint_any (n s : Int) (hn : n < 9223372036854775808) (w : World) :
    Calls Try.prog 111 #[.int .i64 n, .int .i64 s] w fun e w' => e = .returned (.string (putU n s)) ∧ Below w.heap.size w w' := by
  by_cases h1 : 1 ≤ s
  · by_cases h8 : s ≤ 8
    · obtain ⟨m, rfl⟩ := Int.eq_ofNat_of_zero_le (by omega : 0 ≤ s)
      by_cases h0 : 0 ≤ n
      · by_cases hz : n / 2 ^ (8 * m) = 0
        · have Hf := Lib.hid (putU_yes (n := n) (s := m) ⟨h1, h8, h0, hz⟩)
          have hz'' : (n / 2 ^ (8 * m) != 0) = false := by simp [hz]
          clear hz
          go_enter Try.func111, Try.ntmps111
          go_wp2_with (first | (go_at_call 95; refine (le_any n m h0 (by omega) h1 h8 _).mono ?_; rintro e w' ⟨rfl, hb⟩) | go_in)
          go_ret
          exact ⟨by rw [Hf.out]; rfl, by assumption⟩
        · have Hf := Lib.hid (putU_no (n := n) (s := m) (fun h => hz h.2.2.2))
          have hz'' : (n / 2 ^ (8 * m) != 0) = true := by simp [hz]
          clear hz
          go_enter Try.func111, Try.ntmps111
          go_wp2_with (first | go_in)
          go_ret
          exact ⟨by rw [Hf.out]; rfl, Below.refl _ _⟩
      · have Hf := Lib.hid (putU_no (n := n) (s := m) (fun h => h0 h.2.2.1))
        go_enter Try.func111, Try.ntmps111
        go_wp2_with (first | go_in)
        go_ret
        exact ⟨by rw [Hf.out]; rfl, Below.refl _ _⟩
    · have Hf := Lib.hid (putU_no (n := n) (s := s) (fun h => h8 h.2.1))
      go_enter Try.func111, Try.ntmps111
      go_wp2_with (first | go_in)
      go_ret
      exact ⟨by rw [Hf.out]; rfl, Below.refl _ _⟩
  · have Hf := Lib.hid (putU_no (n := n) (s := s) (fun h => h1 h.1))
    go_enter Try.func111, Try.ntmps111
    go_wp2_with (first | go_in)
    go_ret
    exact ⟨by rw [Hf.out]; rfl, Below.refl _ _⟩

end Go.Proofs.Ytmddgncidgdglaa
