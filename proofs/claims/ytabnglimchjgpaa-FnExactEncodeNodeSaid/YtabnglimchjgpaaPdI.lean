/- The program's PadBytes. No statement is proved here. -/
import Derived.Test.YtabnglimchjgpaaByt
import Derived.Test.YtabnglimchjgpaaRpt
namespace Go.Proofs.Ytabnglimchjgpaa
open Go.RowKit
set_option linter.unusedVariables false
theorem repeat_zero : ∀ c, Lib.repeatL [0] c = List.replicate c (0 : UInt8)
  | 0 => rfl
  | c + 1 => by unfold Lib.repeatL; rw [repeat_zero c, List.replicate_succ]; rfl
def padV (s : ByteArray) (n : Int) : Value := if (s.size : Int) ≤ n ∧ n ≤ 65536 then .tuple #[.string (s ++ zeros (n.toNat - s.size)), .bool true] else .tuple #[.string ⟨#[]⟩, .bool false]
theorem padV_yes {s : ByteArray} {n : Int} (h : (s.size : Int) ≤ n ∧ n ≤ 65536) : padV s n = .tuple #[.string (s ++ zeros (n.toNat - s.size)), .bool true] := if_pos h
theorem padV_no {s : ByteArray} {n : Int} (h : ¬ ((s.size : Int) ≤ n ∧ n ≤ 65536)) : padV s n = .tuple #[.string ⟨#[]⟩, .bool false] := if_neg h
theorem implPad_any (s : ByteArray) (n : Int) (hb : -9223372036854775808 ≤ n ∧ n < 9223372036854775808) (hs : s.size ≤ 1048576) (w : World) :
    Calls Try.prog 91 #[.string s, .int .i64 n] w fun e w' => e = .returned (padV s n) ∧ Below w.heap.size w w' := by
  by_cases h1 : (s.size : Int) ≤ n
  · by_cases h2 : n ≤ 65536
    · have Hf := Lib.hid (padV_yes ⟨h1, h2⟩)
      obtain ⟨d, hd⟩ := Int.eq_ofNat_of_zero_le (show 0 ≤ n - (s.size : Int) by omega)
      have hrep := fun w1 => Try.strings_Repeat ⟨#[0]⟩ d w1 (by omega) (by show 1 * d ≤ _; omega)
      rw [show Lib.repeatL (⟨#[0]⟩ : ByteArray).data.toList d = List.replicate d 0 from repeat_zero d] at hrep
      have hz : (⟨(List.replicate d (0 : UInt8)).toArray⟩ : ByteArray) = zeros (n.toNat - s.size) := by unfold zeros; congr 3; omega
      rw [hz] at hrep
      have hzs : (zeros (n.toNat - s.size)).size ≤ 65536 := by show (List.replicate _ _).toArray.size ≤ _; simp; omega
      generalize zeros (n.toNat - s.size) = z at *
      have Hrep := Lib.hid hrep; clear hrep hz
      have hadd := fun w1 => run_string_add_sum (P := Try.prog) w1 s z (by omega)
      go_enter Try.func91, Try.ntmps91
      go_wp2_with (go_at_call 117; refine (Hrep.out _).mono ?_; rintro e w' ⟨rfl, hbel⟩)
      go_ret2
      exact ⟨by rw [Hf.out]; rfl, by assumption⟩
    · have Hf := Lib.hid (padV_no (s := s) (fun h => h2 h.2))
      go_enter Try.func91, Try.ntmps91
      go_wp2_with fail
      go_ret2
      exact ⟨by rw [Hf.out]; rfl, Below.refl _ _⟩
  · have Hf := Lib.hid (padV_no (s := s) (fun h => h1 h.1))
    go_enter Try.func91, Try.ntmps91
    go_wp2_with fail
    go_ret2
    exact ⟨by rw [Hf.out]; rfl, Below.refl _ _⟩
end Go.Proofs.Ytabnglimchjgpaa
