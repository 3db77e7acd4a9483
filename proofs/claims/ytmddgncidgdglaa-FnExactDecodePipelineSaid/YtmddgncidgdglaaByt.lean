/- Contracts of the model's functions that write numbers as bytes and fill up with zeros. No statement is proved here. -/
import Derived.Test.YtmddgncidgdglaaBase
import Derived.Deep.RegionHeld3
namespace Go.Proofs.Ytmddgncidgdglaa
open Go.RowKit
set_option linter.unusedVariables false
theorem l01Bytes_any (n : Int) (s : Int) (h1 : 1 ≤ s) (h8 : s ≤ 8) (w : World) :
    Calls Try.prog 101 #[.int .i64 n, .int .i64 s] w fun e w' => e = .returned (.string (leS n s.toNat)) ∧ Below w.heap.size w w' := by
  obtain ⟨m, rfl⟩ := Int.eq_ofNat_of_zero_le (by omega : 0 ≤ s)
  go_enter Try.func101, Try.ntmps101
  go_wp2
  go_loopw [5, 6] (fun v i wr => ∃ k : Nat, k ≤ m ∧ i = .int .i64 k ∧ OwnB wr w.heap.size v (leL n k) ∧ Below w.heap.size w wr) (fun _ i _ => m - (intOf i).toNat)
  case atStart => exact ⟨0, Nat.zero_le _, rfl, World.ownsRow_lit w #[] 0 (Nat.le_refl _) (by decide) rfl, (Below.refl _ _).alloc (Nat.le_refl _) _⟩
  case round =>
    obtain ⟨k, hk, rfl, hown, hbel⟩ := hrel
    have hsz := hbel.size
    by_cases hlt : k < m
    · go_wp2_with (at_builtin; refine wpList_app wr _ 1 rfl (.tmp 13) (.tmp 21) rfl w.heap.size _ _ hown rfl [byteOf n k] ?c1 rfl rfl ?c2 hsz ?_)
      case c1 => simp [bv, byteOf_toNat, byte_low]
      case c2 => rw [leL_length]; omega
      intro v' w1 hown' hbel'
      rw [← leL_succ] at hown'
      go_wp2
      go_roundw
      case rel => exact ⟨k + 1, by omega, by go_num, hown', hbel.trans hbel'⟩
      case measure => simp [intOf]; omega
    · have hkm : k = m := by omega
      have hc := conv_own hown
      have Hown := Lib.hid hown; clear hown
      go_wp2
      go_ret
      refine ⟨?_, hbel⟩
      rw [hkm]; simp [leS]
theorem made_zero (n : Nat) : (madeCells (Value.int .u8 0).cells (n * 1)).toList = (List.replicate n (0 : UInt8)).map bv := by
  rw [Nat.mul_one]
  show (madeCells #[.int .u8 0] n).toList = _
  rw [toList_madeCells_one]
  simp [bv]
def zeros (k : Nat) : ByteArray := ⟨(List.replicate k (0 : UInt8)).toArray⟩
theorem l01Pad_any (s : ByteArray) (n : Int) (h1 : (s.size : Int) ≤ n) (h2 : n ≤ 65536) (w : World) :
    Calls Try.prog 124 #[.string s, .int .i64 n] w fun e w' => e = .returned (.string (s ++ zeros (n.toNat - s.size))) ∧ Below w.heap.size w w' := by
  by_cases he : n ≤ (s.size : Int)
  · have hz : zeros (n.toNat - s.size) = ⟨#[]⟩ := by unfold zeros; rw [show n.toNat - s.size = 0 from by omega]; rfl
    have hss : s ++ zeros (n.toNat - s.size) = s := by rw [hz]; exact ByteArray.append_empty
    have Hf := Lib.hid hss; clear hss hz
    go_enter Try.func124, Try.ntmps124
    go_wp2_with fail
    go_ret
    exact ⟨by rw [Hf.out]; rfl, Below.refl _ _⟩
  · obtain ⟨d, hd⟩ := Int.eq_ofNat_of_zero_le (show 0 ≤ n - (s.size : Int) by omega)
    obtain ⟨i0, hi, hz0, hz1, hz2⟩ := info_parts Try.infoB
    obtain ⟨w1, hrun, hown, hg⟩ := run_make_full (P := Try.prog) w w.heap.size 62 5 i0 (.int .u8 0) 1 Try.underlying62 hi hz0 hz1 .i64 .i64 d (by rw [hz2]; omega) (by unfold maxLen; omega) (Nat.le_refl _)
    rw [made_zero] at hown
    have hown : OwnB w1 w.heap.size (.slice (some ⟨w.heap.size, 0, none⟩) d d) (List.replicate d (0 : UInt8)) := by
      unfold OwnB; rw [List.length_replicate]; exact hown
    have hc := conv_own hown
    have hz : (⟨(List.replicate d (0 : UInt8)).toArray⟩ : ByteArray) = zeros (n.toNat - s.size) := by rw [show n.toNat - s.size = d by omega]; rfl
    rw [hz] at hc
    have hzs : (zeros (n.toNat - s.size)).size ≤ 65536 := by show (List.replicate _ _).toArray.size ≤ _; simp; omega
    have hbel : Below w.heap.size w w1 := (Below.refl _ _).grown hg (Nat.le_refl _) (fun k hk => by cases hk)
    have hadd := fun w2 => run_string_add_sum (P := Try.prog) w2 s (zeros (n.toNat - s.size)) (by omega)
    rw [← hd] at hrun
    generalize zeros (n.toNat - s.size) = z at *
    clear hi hz0 hz1 hz2 hg hown hd hz
    go_enter Try.func124, Try.ntmps124
    go_wp2_with fail
    go_ret
    exact ⟨rfl, hbel⟩
end Go.Proofs.Ytmddgncidgdglaa
