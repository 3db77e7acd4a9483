/- The contracts of PadBytes, the program's and the model's. No statement is proved here. -/
import Derived.Test.YtjfkfnmbppmbpaaNum
import Derived.Test.YtjfkfnmbppmbpaaShelf
namespace Go.Proofs.Ytjfkfnmbppmbpaa
open Go.RowKit
set_option linter.unusedVariables false
theorem repeat_zero : ∀ c, Lib.repeatL [0] c = List.replicate c (0 : UInt8)
  | 0 => rfl
  | c + 1 => by unfold Lib.repeatL; rw [repeat_zero c, List.replicate_succ]; rfl
def zeros (k : Nat) : ByteArray := ⟨(List.replicate k (0 : UInt8)).toArray⟩
def padV (s : ByteArray) (n : Int) : Value := if (s.size : Int) ≤ n ∧ n ≤ 65536 then .tuple #[.string (s ++ zeros (n.toNat - s.size)), .bool true] else .tuple #[.string ⟨#[]⟩, .bool false]
theorem padV_yes {s : ByteArray} {n : Int} (h : (s.size : Int) ≤ n ∧ n ≤ 65536) : padV s n = .tuple #[.string (s ++ zeros (n.toNat - s.size)), .bool true] := if_pos h
theorem padV_no {s : ByteArray} {n : Int} (h : ¬ ((s.size : Int) ≤ n ∧ n ≤ 65536)) : padV s n = .tuple #[.string ⟨#[]⟩, .bool false] := if_neg h
theorem implPad_any (s : ByteArray) (n : Int) (hb : -9223372036854775808 ≤ n ∧ n < 9223372036854775808) (hs : s.size ≤ 1048576) (w : World) :
    Calls Try.prog 33 #[.string s, .int .i64 n] w fun e w' => e = .returned (padV s n) ∧ Below w.heap.size w w' := by
  by_cases h1 : (s.size : Int) ≤ n
  · by_cases h2 : n ≤ 65536
    · have Hf := Lib.hid (padV_yes ⟨h1, h2⟩)
      obtain ⟨d, hd⟩ := Int.eq_ofNat_of_zero_le (show 0 ≤ n - (s.size : Int) by omega)
      have hrep := fun w1 => Try.strings_Repeat ⟨#[0]⟩ d w1 (by omega) (by show 1 * d ≤ _; omega)
      rw [show Lib.repeatL (⟨#[0]⟩ : ByteArray).data.toList d = List.replicate d 0 from repeat_zero d] at hrep
      have hz : (⟨(List.replicate d (0 : UInt8)).toArray⟩ : ByteArray) = zeros (n.toNat - s.size) := by unfold zeros; congr 3; omega
      rw [hz] at hrep
      have hzs : (zeros (n.toNat - s.size)).size ≤ 65536 := by show (List.replicate _ _).toArray.size ≤ _; simp; omega
      generalize zeros (n.toNat - s.size) = z at *
      have Hrep := Lib.hid hrep; clear hrep hz
      have hadd := fun w1 => run_string_add_sum (P := Try.prog) w1 s z (by omega)
      go_enter Try.func33, Try.ntmps33
      go_wp2_with (go_at_call 57; refine (Hrep.out _).mono ?_; rintro e w' ⟨rfl, hbel⟩)
      go_ret2
      exact ⟨by rw [Hf.out]; rfl, by assumption⟩
    · have Hf := Lib.hid (padV_no (s := s) (fun h => h2 h.2))
      go_enter Try.func33, Try.ntmps33
      go_wp2_with fail
      go_ret2
      exact ⟨by rw [Hf.out]; rfl, Below.refl _ _⟩
  · have Hf := Lib.hid (padV_no (s := s) (fun h => h1 h.1))
    go_enter Try.func33, Try.ntmps33
    go_wp2_with fail
    go_ret2
    exact ⟨by rw [Hf.out]; rfl, Below.refl _ _⟩
theorem l01Pad_any (s : ByteArray) (n : Int) (h1 : (s.size : Int) ≤ n) (h2 : n ≤ 65536) (w : World) :
    Calls Try.prog 56 #[.string s, .int .i64 n] w fun e w' => e = .returned (.string (s ++ zeros (n.toNat - s.size))) ∧ Below w.heap.size w w' := by
  by_cases he : n ≤ (s.size : Int)
  · have hz : zeros (n.toNat - s.size) = ⟨#[]⟩ := by unfold zeros; rw [show n.toNat - s.size = 0 from by omega]; rfl
    have hss : s ++ zeros (n.toNat - s.size) = s := by rw [hz]; exact ByteArray.append_empty
    have Hf := Lib.hid hss; clear hss hz
    go_enter Try.func56, Try.ntmps56
    go_wp2_with fail
    go_ret
    exact ⟨by rw [Hf.out]; rfl, Below.refl _ _⟩
  · obtain ⟨d, hd⟩ := Int.eq_ofNat_of_zero_le (show 0 ≤ n - (s.size : Int) by omega)
    obtain ⟨i0, hi, hz0, hz1, hz2⟩ := info_parts Try.infoB
    obtain ⟨w1, hrun, hown, hg⟩ := run_make_full (P := Try.prog) w w.heap.size 22 5 i0 (.int .u8 0) 1 Try.underlying22 hi hz0 hz1 .i64 .i64 d (by rw [hz2]; omega) (by unfold maxLen; omega) (Nat.le_refl _)
    rw [made_zero] at hown
    have hown : OwnB w1 w.heap.size (.slice (some ⟨w.heap.size, 0, none⟩) d d) (List.replicate d (0 : UInt8)) := by
      unfold OwnB; rw [List.length_replicate]; exact hown
    have hc := conv_own hown
    have hz : (⟨(List.replicate d (0 : UInt8)).toArray⟩ : ByteArray) = zeros (n.toNat - s.size) := by unfold zeros; congr 3; omega
    rw [hz] at hc
    have hzs : (zeros (n.toNat - s.size)).size ≤ 65536 := by show (List.replicate _ _).toArray.size ≤ _; simp; omega
    have hbel : Below w.heap.size w w1 := (Below.refl _ _).grown hg (Nat.le_refl _) (fun k hk => by cases hk)
    have hadd := fun w2 => run_string_add_sum (P := Try.prog) w2 s (zeros (n.toNat - s.size)) (by omega)
    rw [← hd] at hrun
    generalize zeros (n.toNat - s.size) = z at *
    clear hi hz0 hz1 hz2 hg hown hd hz
    go_enter Try.func56, Try.ntmps56
    go_wp2_with fail
    go_ret
    exact ⟨rfl, hbel⟩
theorem specPad_any (s : ByteArray) (n : Int) (hb : -9223372036854775808 ≤ n ∧ n < 9223372036854775808) (hs : s.size ≤ 1048576) (w : World) :
    Calls Try.prog 32 #[.string s, .int .i64 n] w fun e w' => e = .returned (padV s n) ∧ Below w.heap.size w w' := by
  by_cases h1 : (s.size : Int) ≤ n
  · by_cases h2 : n ≤ 65536
    · have Hf := Lib.hid (padV_yes ⟨h1, h2⟩)
      have hc := fun w1 => l01Pad_any s n h1 h2 w1
      generalize s ++ zeros (n.toNat - s.size) = z at *
      have Hc := Lib.hid hc; clear hc
      go_enter Try.func32, Try.ntmps32
      go_wp2_with (go_at_call 56; refine (Hc.out _).mono ?_; rintro e w' ⟨rfl, hbel⟩)
      go_ret2
      exact ⟨by rw [Hf.out]; rfl, by assumption⟩
    · have Hf := Lib.hid (padV_no (s := s) (fun h => h2 h.2))
      go_enter Try.func32, Try.ntmps32
      go_wp2_with fail
      go_ret2
      exact ⟨by rw [Hf.out]; rfl, Below.refl _ _⟩
  · have Hf := Lib.hid (padV_no (s := s) (fun h => h1 h.1))
    go_enter Try.func32, Try.ntmps32
    go_wp2_with fail
    go_ret2
    exact ⟨by rw [Hf.out]; rfl, Below.refl _ _⟩
theorem padV_form (s : ByteArray) (n : Int) : ∃ t b, padV s n = .tuple #[.string t, .bool b] := by
  unfold padV; split
  · exact ⟨_, _, rfl⟩
  · exact ⟨_, _, rfl⟩
end Go.Proofs.Ytjfkfnmbppmbpaa
