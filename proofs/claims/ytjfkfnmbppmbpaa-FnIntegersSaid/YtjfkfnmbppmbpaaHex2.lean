/- The contracts of the program's HexText and the model's. No statement is proved here. -/
import Derived.Test.YtjfkfnmbppmbpaaHex
namespace Go.Proofs.Ytjfkfnmbppmbpaa
open Go.RowKit
set_option linter.unusedVariables false
def hexS (s : ByteArray) : ByteArray := ⟨(hexL s.data.toList).toArray⟩
theorem specHexText_any (s : ByteArray) (hs : s.size ≤ 1048576) (w : World) :
    Calls Try.prog 34 #[.string s] w fun e w' => e = .returned (.string (hexS s)) ∧ Below w.heap.size w w' := by
  go_enter Try.func34, Try.ntmps34
  go_wp2_with (go_at_call 50; refine (l01Hex_any s hs _).mono ?_; rintro e w' ⟨rfl, hb⟩)
  go_ret
  exact ⟨rfl, by assumption⟩
set_option maxHeartbeats 400000 in
theorem implHexText_any (s : ByteArray) (hs : s.size ≤ 1048576) (w : World) :
    Calls Try.prog 26 #[.string s] w fun e w' => e = .returned (.string (hexS s)) ∧ Below w.heap.size w w' := by
  have hl : s.data.toList.length = s.size := by simp
  obtain ⟨i0, hi, hz0, hz1, hz2⟩ := info_parts Try.infoB
  obtain ⟨w1, hrun, hown, hg⟩ := run_make_own (P := Try.prog) w w.heap.size 22 5 i0 (.int .u8 0) 1 Try.underlying22 hi hz0 hz1 .i64 .i64 (2 * s.size) (by rw [hz2]; omega) (by unfold maxLen; omega) (Nat.le_refl _)
  rw [show ((2 * s.size : Nat) : Int) = 2 * (s.size : Int) from by omega] at hrun
  have hown0 : OwnB w1 w.heap.size (.slice (some ⟨w.heap.size, 0, none⟩) 0 (2 * s.size)) (hexL (s.data.toList.take 0)) := hown
  have hbel : Below w.heap.size w w1 := (Below.refl _ _).grown hg (Nat.le_refl _) (fun k hk => by cases hk)
  clear hi hz0 hz1 hz2 hg hown
  have Hown := Lib.hid hown0; clear hown0
  go_enter Try.func26, Try.ntmps26
  go_wp2
  go_loopw [3, 4, 11] (fun v _ i wr => ∃ k : Nat, k ≤ s.size ∧ i = .int .i64 k ∧ OwnB wr w.heap.size v (hexL (s.data.toList.take k)) ∧ Below w.heap.size w wr) (fun _ _ i _ => s.size - (intOf i).toNat)
  case atStart => exact ⟨0, Nat.zero_le _, rfl, Hown.out, hbel⟩
  case round =>
    obtain ⟨k, hk, rfl, hown, hbel⟩ := hrel
    have hsz := hbel.size
    by_cases hlt : k < s.size
    · obtain ⟨b, hsb, hix, h1, h2⟩ := hex_reads s k hlt
      have hb := byte_lt b
      have hlen : (hexL (s.data.toList.take k)).length + 2 ≤ 70368744177664 := by rw [hexL_length, List.length_take]; omega
      have Hown := Lib.hid hown; have Hsb := Lib.hid hsb; have Hlen := Lib.hid hlen; have Hl := Lib.hid hl; clear hown hsb hlen hl
      go_wp2
      go_region_held3 (fun w' => True) (trivial)
        ((refine step_app _ wr.heap.size 2 (by rfl) _ _ (by rfl) w.heap.size _ (hexL (s.data.toList.take k)) (by exact OwnB.drew (OwnB.alloc Hown.out _)) (by rfl) (hex2 b) (by exact heap_alloc_new wr _) (by rfl) (by rfl) Hlen.out (by simp; omega) ?_; intro v' w1 hown' hbel'))
      all_goals
        rw [← hexL_snoc, ← Hsb.out] at hown'
        have hbel2 := hbel.trans (((((Below.refl _ wr).alloc hsz _).drew).trans hbel'))
        go_wp2
        go_roundw
        case rel => exact ⟨k + 1, by omega, by go_num, hown', hbel2⟩
        case measure => simp [intOf]; omega
    · have hkm : s.data.toList.take k = s.data.toList := List.take_of_length_le (by omega)
      have hc := conv_own hown
      rw [hkm] at hc
      have Hown := Lib.hid hown; clear hown hkm
      go_wp2
      go_ret
      exact ⟨rfl, hbel⟩
end Go.Proofs.Ytjfkfnmbppmbpaa
