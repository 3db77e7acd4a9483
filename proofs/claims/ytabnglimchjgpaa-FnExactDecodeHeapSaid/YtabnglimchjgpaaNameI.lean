/- The contract of the program's IsName. No statement is proved here. -/
import Derived.Test.YtabnglimchjgpaaName
namespace Go.Proofs.Ytabnglimchjgpaa
open Go.RowKit
set_option linter.unusedVariables false
set_option maxHeartbeats 4000000 in
theorem implIsName_any (s : ByteArray) (hs : s.size ≤ 1048576) (w : World) :
    Calls Try.prog 57 #[.string s] w fun e w' => e = .returned (.bool (nameS s)) ∧ Below w.heap.size w w' := by
  by_cases h0 : 0 < s.size
  · by_cases h12 : s.size ≤ 12
    · have hne := toList_ne s h0
      have hd12 : decide ((12 : Int) < (s.size : Int)) = false := by simp; omega
      go_enter Try.func57, Try.ntmps57
      go_wp2
      go_loopw [3, 4, 5, 15, 16] (fun _ _ _ _ _ wr => ∃ pos : Nat, pos ≤ s.size ∧ wr = w.iter s pos ∧ goodTo s pos = true) (fun _ _ _ _ _ wr => s.size - wr.iterPos w.heap.size)
      case atStart => exact ⟨0, Nat.zero_le _, rfl, rfl⟩
      case round =>
        obtain ⟨pos, hpos, rfl, hgood⟩ := hrel
        by_cases hp : pos < s.size
        · have hsucc := goodTo_succ s pos
          rw [hgood] at hsucc
          have eb := byteN_at s pos hp
          by_cases ha : (s[pos]'hp).toNat < 128
          · have hnx : ∀ ty, (Instr.next (.pointer (some ⟨w.heap.size, 0, none⟩)) true ty).run Try.prog (w.iter s pos) = _ := fun ty => run_next_ascii w s pos ty hp ha
            generalize (s[pos]'hp).toNat = n at *
            have Hsucc := Lib.hid hsucc; have Eb := Lib.hid eb; have Hgood := Lib.hid hgood; clear hsucc eb hgood hne hd12
            by_cases hz : 0 < pos
            · skip
              have hc : (0 ≤ n ∧ n ≤ 47) ∨ (48 ≤ n ∧ n ≤ 57) ∨ (58 ≤ n ∧ n ≤ 64) ∨ (65 ≤ n ∧ n ≤ 90) ∨ (91 ≤ n ∧ n ≤ 94) ∨ (95 ≤ n ∧ n ≤ 95) ∨ (96 ≤ n ∧ n ≤ 96) ∨ (97 ≤ n ∧ n ≤ 122) ∨ (123 ≤ n ∧ n ≤ 127) := by omega
              rcases hc with ⟨q1, q2⟩ | ⟨q1, q2⟩ | ⟨q1, q2⟩ | ⟨q1, q2⟩ | ⟨q1, q2⟩ | ⟨q1, q2⟩ | ⟨q1, q2⟩ | ⟨q1, q2⟩ | ⟨q1, q2⟩
              · have Hf := Lib.hid (nameS_bad s pos hp (ok_no s pos n Eb.out (by omega) (by omega)))
                have d57 : decide ((n : Int) ≤ 57) = true := by simp; omega
                have d90 : decide ((n : Int) ≤ 90) = true := by simp; omega
                have d122 : decide ((n : Int) ≤ 122) = true := by simp; omega
                have g48 : decide ((48 : Int) ≤ (n : Int)) = false := by simp; omega
                have g65 : decide ((65 : Int) ≤ (n : Int)) = false := by simp; omega
                have g97 : decide ((97 : Int) ≤ (n : Int)) = false := by simp; omega
                have e95 : ((n : Int) == 95) = false := by simp; omega
                go_wp2
                go_ret
                exact ⟨by rw [Hf.out]; rfl, iter_below _ _ _⟩
              · have Hg' : Hid (goodTo s (pos + 1) = true) := Lib.hid (by rw [Hsucc.out, ok_rest s pos n Eb.out hz (by omega)]; rfl)
                have d57 : decide ((n : Int) ≤ 57) = true := by simp; omega
                have d90 : decide ((n : Int) ≤ 90) = true := by simp; omega
                have d122 : decide ((n : Int) ≤ 122) = true := by simp; omega
                have g48 : decide ((48 : Int) ≤ (n : Int)) = true := by simp; omega
                have g65 : decide ((65 : Int) ≤ (n : Int)) = false := by simp; omega
                have g97 : decide ((97 : Int) ≤ (n : Int)) = false := by simp; omega
                have e95 : ((n : Int) == 95) = false := by simp; omega
                go_wp2
                go_roundw
                case rel => exact ⟨pos + 1, by omega, rfl, Hg'.out⟩
                case measure => simp; omega
              · have Hf := Lib.hid (nameS_bad s pos hp (ok_no s pos n Eb.out (by omega) (by omega)))
                have d57 : decide ((n : Int) ≤ 57) = false := by simp; omega
                have d90 : decide ((n : Int) ≤ 90) = true := by simp; omega
                have d122 : decide ((n : Int) ≤ 122) = true := by simp; omega
                have g48 : decide ((48 : Int) ≤ (n : Int)) = true := by simp; omega
                have g65 : decide ((65 : Int) ≤ (n : Int)) = false := by simp; omega
                have g97 : decide ((97 : Int) ≤ (n : Int)) = false := by simp; omega
                have e95 : ((n : Int) == 95) = false := by simp; omega
                go_wp2
                go_ret
                exact ⟨by rw [Hf.out]; rfl, iter_below _ _ _⟩
              · have Hg' : Hid (goodTo s (pos + 1) = true) := Lib.hid (by rw [Hsucc.out, ok_letter s pos n Eb.out (by omega)]; rfl)
                have d57 : decide ((n : Int) ≤ 57) = false := by simp; omega
                have d90 : decide ((n : Int) ≤ 90) = true := by simp; omega
                have d122 : decide ((n : Int) ≤ 122) = true := by simp; omega
                have g48 : decide ((48 : Int) ≤ (n : Int)) = true := by simp; omega
                have g65 : decide ((65 : Int) ≤ (n : Int)) = true := by simp; omega
                have g97 : decide ((97 : Int) ≤ (n : Int)) = false := by simp; omega
                have e95 : ((n : Int) == 95) = false := by simp; omega
                go_wp2
                go_roundw
                case rel => exact ⟨pos + 1, by omega, rfl, Hg'.out⟩
                case measure => simp; omega
              · have Hf := Lib.hid (nameS_bad s pos hp (ok_no s pos n Eb.out (by omega) (by omega)))
                have d57 : decide ((n : Int) ≤ 57) = false := by simp; omega
                have d90 : decide ((n : Int) ≤ 90) = false := by simp; omega
                have d122 : decide ((n : Int) ≤ 122) = true := by simp; omega
                have g48 : decide ((48 : Int) ≤ (n : Int)) = true := by simp; omega
                have g65 : decide ((65 : Int) ≤ (n : Int)) = true := by simp; omega
                have g97 : decide ((97 : Int) ≤ (n : Int)) = false := by simp; omega
                have e95 : ((n : Int) == 95) = false := by simp; omega
                go_wp2
                go_ret
                exact ⟨by rw [Hf.out]; rfl, iter_below _ _ _⟩
              · have Hg' : Hid (goodTo s (pos + 1) = true) := Lib.hid (by rw [Hsucc.out, ok_rest s pos n Eb.out hz (by omega)]; rfl)
                have d57 : decide ((n : Int) ≤ 57) = false := by simp; omega
                have d90 : decide ((n : Int) ≤ 90) = false := by simp; omega
                have d122 : decide ((n : Int) ≤ 122) = true := by simp; omega
                have g48 : decide ((48 : Int) ≤ (n : Int)) = true := by simp; omega
                have g65 : decide ((65 : Int) ≤ (n : Int)) = true := by simp; omega
                have g97 : decide ((97 : Int) ≤ (n : Int)) = false := by simp; omega
                have e95 : ((n : Int) == 95) = true := by simp; omega
                go_wp2
                go_roundw
                case rel => exact ⟨pos + 1, by omega, rfl, Hg'.out⟩
                case measure => simp; omega
              · have Hf := Lib.hid (nameS_bad s pos hp (ok_no s pos n Eb.out (by omega) (by omega)))
                have d57 : decide ((n : Int) ≤ 57) = false := by simp; omega
                have d90 : decide ((n : Int) ≤ 90) = false := by simp; omega
                have d122 : decide ((n : Int) ≤ 122) = true := by simp; omega
                have g48 : decide ((48 : Int) ≤ (n : Int)) = true := by simp; omega
                have g65 : decide ((65 : Int) ≤ (n : Int)) = true := by simp; omega
                have g97 : decide ((97 : Int) ≤ (n : Int)) = false := by simp; omega
                have e95 : ((n : Int) == 95) = false := by simp; omega
                go_wp2
                go_ret
                exact ⟨by rw [Hf.out]; rfl, iter_below _ _ _⟩
              · have Hg' : Hid (goodTo s (pos + 1) = true) := Lib.hid (by rw [Hsucc.out, ok_letter s pos n Eb.out (by omega)]; rfl)
                have d57 : decide ((n : Int) ≤ 57) = false := by simp; omega
                have d90 : decide ((n : Int) ≤ 90) = false := by simp; omega
                have d122 : decide ((n : Int) ≤ 122) = true := by simp; omega
                have g48 : decide ((48 : Int) ≤ (n : Int)) = true := by simp; omega
                have g65 : decide ((65 : Int) ≤ (n : Int)) = true := by simp; omega
                have g97 : decide ((97 : Int) ≤ (n : Int)) = true := by simp; omega
                have e95 : ((n : Int) == 95) = false := by simp; omega
                go_wp2
                go_roundw
                case rel => exact ⟨pos + 1, by omega, rfl, Hg'.out⟩
                case measure => simp; omega
              · have Hf := Lib.hid (nameS_bad s pos hp (ok_no s pos n Eb.out (by omega) (by omega)))
                have d57 : decide ((n : Int) ≤ 57) = false := by simp; omega
                have d90 : decide ((n : Int) ≤ 90) = false := by simp; omega
                have d122 : decide ((n : Int) ≤ 122) = false := by simp; omega
                have g48 : decide ((48 : Int) ≤ (n : Int)) = true := by simp; omega
                have g65 : decide ((65 : Int) ≤ (n : Int)) = true := by simp; omega
                have g97 : decide ((97 : Int) ≤ (n : Int)) = true := by simp; omega
                have e95 : ((n : Int) == 95) = false := by simp; omega
                go_wp2
                go_ret
                exact ⟨by rw [Hf.out]; rfl, iter_below _ _ _⟩
            · skip
              have hc : (0 ≤ n ∧ n ≤ 47) ∨ (48 ≤ n ∧ n ≤ 57) ∨ (58 ≤ n ∧ n ≤ 64) ∨ (65 ≤ n ∧ n ≤ 90) ∨ (91 ≤ n ∧ n ≤ 94) ∨ (95 ≤ n ∧ n ≤ 95) ∨ (96 ≤ n ∧ n ≤ 96) ∨ (97 ≤ n ∧ n ≤ 122) ∨ (123 ≤ n ∧ n ≤ 127) := by omega
              rcases hc with ⟨q1, q2⟩ | ⟨q1, q2⟩ | ⟨q1, q2⟩ | ⟨q1, q2⟩ | ⟨q1, q2⟩ | ⟨q1, q2⟩ | ⟨q1, q2⟩ | ⟨q1, q2⟩ | ⟨q1, q2⟩
              · have Hf := Lib.hid (nameS_bad s pos hp (ok_no s pos n Eb.out (by omega) (by omega)))
                have d57 : decide ((n : Int) ≤ 57) = true := by simp; omega
                have d90 : decide ((n : Int) ≤ 90) = true := by simp; omega
                have d122 : decide ((n : Int) ≤ 122) = true := by simp; omega
                have g48 : decide ((48 : Int) ≤ (n : Int)) = false := by simp; omega
                have g65 : decide ((65 : Int) ≤ (n : Int)) = false := by simp; omega
                have g97 : decide ((97 : Int) ≤ (n : Int)) = false := by simp; omega
                have e95 : ((n : Int) == 95) = false := by simp; omega
                go_wp2
                go_ret
                exact ⟨by rw [Hf.out]; rfl, iter_below _ _ _⟩
              · have Hf := Lib.hid (nameS_bad s pos hp (ok_no s pos n Eb.out (by omega) (by omega)))
                have d57 : decide ((n : Int) ≤ 57) = true := by simp; omega
                have d90 : decide ((n : Int) ≤ 90) = true := by simp; omega
                have d122 : decide ((n : Int) ≤ 122) = true := by simp; omega
                have g48 : decide ((48 : Int) ≤ (n : Int)) = true := by simp; omega
                have g65 : decide ((65 : Int) ≤ (n : Int)) = false := by simp; omega
                have g97 : decide ((97 : Int) ≤ (n : Int)) = false := by simp; omega
                have e95 : ((n : Int) == 95) = false := by simp; omega
                go_wp2
                go_ret
                exact ⟨by rw [Hf.out]; rfl, iter_below _ _ _⟩
              · have Hf := Lib.hid (nameS_bad s pos hp (ok_no s pos n Eb.out (by omega) (by omega)))
                have d57 : decide ((n : Int) ≤ 57) = false := by simp; omega
                have d90 : decide ((n : Int) ≤ 90) = true := by simp; omega
                have d122 : decide ((n : Int) ≤ 122) = true := by simp; omega
                have g48 : decide ((48 : Int) ≤ (n : Int)) = true := by simp; omega
                have g65 : decide ((65 : Int) ≤ (n : Int)) = false := by simp; omega
                have g97 : decide ((97 : Int) ≤ (n : Int)) = false := by simp; omega
                have e95 : ((n : Int) == 95) = false := by simp; omega
                go_wp2
                go_ret
                exact ⟨by rw [Hf.out]; rfl, iter_below _ _ _⟩
              · have Hg' : Hid (goodTo s (pos + 1) = true) := Lib.hid (by rw [Hsucc.out, ok_letter s pos n Eb.out (by omega)]; rfl)
                have d57 : decide ((n : Int) ≤ 57) = false := by simp; omega
                have d90 : decide ((n : Int) ≤ 90) = true := by simp; omega
                have d122 : decide ((n : Int) ≤ 122) = true := by simp; omega
                have g48 : decide ((48 : Int) ≤ (n : Int)) = true := by simp; omega
                have g65 : decide ((65 : Int) ≤ (n : Int)) = true := by simp; omega
                have g97 : decide ((97 : Int) ≤ (n : Int)) = false := by simp; omega
                have e95 : ((n : Int) == 95) = false := by simp; omega
                go_wp2
                go_roundw
                case rel => exact ⟨pos + 1, by omega, rfl, Hg'.out⟩
                case measure => simp; omega
              · have Hf := Lib.hid (nameS_bad s pos hp (ok_no s pos n Eb.out (by omega) (by omega)))
                have d57 : decide ((n : Int) ≤ 57) = false := by simp; omega
                have d90 : decide ((n : Int) ≤ 90) = false := by simp; omega
                have d122 : decide ((n : Int) ≤ 122) = true := by simp; omega
                have g48 : decide ((48 : Int) ≤ (n : Int)) = true := by simp; omega
                have g65 : decide ((65 : Int) ≤ (n : Int)) = true := by simp; omega
                have g97 : decide ((97 : Int) ≤ (n : Int)) = false := by simp; omega
                have e95 : ((n : Int) == 95) = false := by simp; omega
                go_wp2
                go_ret
                exact ⟨by rw [Hf.out]; rfl, iter_below _ _ _⟩
              · have Hf := Lib.hid (nameS_bad s pos hp (ok_no s pos n Eb.out (by omega) (by omega)))
                have d57 : decide ((n : Int) ≤ 57) = false := by simp; omega
                have d90 : decide ((n : Int) ≤ 90) = false := by simp; omega
                have d122 : decide ((n : Int) ≤ 122) = true := by simp; omega
                have g48 : decide ((48 : Int) ≤ (n : Int)) = true := by simp; omega
                have g65 : decide ((65 : Int) ≤ (n : Int)) = true := by simp; omega
                have g97 : decide ((97 : Int) ≤ (n : Int)) = false := by simp; omega
                have e95 : ((n : Int) == 95) = true := by simp; omega
                go_wp2
                go_ret
                exact ⟨by rw [Hf.out]; rfl, iter_below _ _ _⟩
              · have Hf := Lib.hid (nameS_bad s pos hp (ok_no s pos n Eb.out (by omega) (by omega)))
                have d57 : decide ((n : Int) ≤ 57) = false := by simp; omega
                have d90 : decide ((n : Int) ≤ 90) = false := by simp; omega
                have d122 : decide ((n : Int) ≤ 122) = true := by simp; omega
                have g48 : decide ((48 : Int) ≤ (n : Int)) = true := by simp; omega
                have g65 : decide ((65 : Int) ≤ (n : Int)) = true := by simp; omega
                have g97 : decide ((97 : Int) ≤ (n : Int)) = false := by simp; omega
                have e95 : ((n : Int) == 95) = false := by simp; omega
                go_wp2
                go_ret
                exact ⟨by rw [Hf.out]; rfl, iter_below _ _ _⟩
              · have Hg' : Hid (goodTo s (pos + 1) = true) := Lib.hid (by rw [Hsucc.out, ok_letter s pos n Eb.out (by omega)]; rfl)
                have d57 : decide ((n : Int) ≤ 57) = false := by simp; omega
                have d90 : decide ((n : Int) ≤ 90) = false := by simp; omega
                have d122 : decide ((n : Int) ≤ 122) = true := by simp; omega
                have g48 : decide ((48 : Int) ≤ (n : Int)) = true := by simp; omega
                have g65 : decide ((65 : Int) ≤ (n : Int)) = true := by simp; omega
                have g97 : decide ((97 : Int) ≤ (n : Int)) = true := by simp; omega
                have e95 : ((n : Int) == 95) = false := by simp; omega
                go_wp2
                go_roundw
                case rel => exact ⟨pos + 1, by omega, rfl, Hg'.out⟩
                case measure => simp; omega
              · have Hf := Lib.hid (nameS_bad s pos hp (ok_no s pos n Eb.out (by omega) (by omega)))
                have d57 : decide ((n : Int) ≤ 57) = false := by simp; omega
                have d90 : decide ((n : Int) ≤ 90) = false := by simp; omega
                have d122 : decide ((n : Int) ≤ 122) = false := by simp; omega
                have g48 : decide ((48 : Int) ≤ (n : Int)) = true := by simp; omega
                have g65 : decide ((65 : Int) ≤ (n : Int)) = true := by simp; omega
                have g97 : decide ((97 : Int) ≤ (n : Int)) = true := by simp; omega
                have e95 : ((n : Int) == 95) = false := by simp; omega
                go_wp2
                go_ret
                exact ⟨by rw [Hf.out]; rfl, iter_below _ _ _⟩
          · have hhi := (decode_high s pos hp (by omega)).1
            have Hf := Lib.hid (nameS_bad s pos hp (ok_no s pos _ eb (by omega) (by omega)))
            have hnx : ∀ ty, (Instr.next (.pointer (some ⟨w.heap.size, 0, none⟩)) true ty).run Try.prog (w.iter s pos) = _ := fun ty => run_next_any w s pos ty hp
            generalize (Utf8.decode s pos).1 = r at *
            clear hsucc eb hgood hne hd12 ha
            have d57 : decide ((r : Int) ≤ 57) = false := by simp; omega
            have d90 : decide ((r : Int) ≤ 90) = false := by simp; omega
            have d122 : decide ((r : Int) ≤ 122) = false := by simp; omega
            have g48 : decide ((48 : Int) ≤ (r : Int)) = true := by simp; omega
            have g65 : decide ((65 : Int) ≤ (r : Int)) = true := by simp; omega
            have g97 : decide ((97 : Int) ≤ (r : Int)) = true := by simp; omega
            have e95 : ((r : Int) == 95) = false := by simp; omega
            by_cases hz : 0 < pos
            all_goals
              go_wp2
              go_ret
              exact ⟨by rw [Hf.out]; rfl, iter_below _ _ _⟩
        · obtain rfl : pos = s.size := by omega
          have hnx : ∀ ty, (Instr.next (.pointer (some ⟨w.heap.size, 0, none⟩)) true ty).run Try.prog (w.iter s s.size) = _ := fun ty => run_next_end w s s.size ty hp
          have Hf := Lib.hid (nameS_good s h0 h12 hgood)
          clear hgood
          go_wp2
          go_ret
          exact ⟨by rw [Hf.out]; rfl, iter_below _ _ _⟩
    · have Hf := Lib.hid (nameS_long s h12)
      have hne := toList_ne s h0
      have hd12 : decide ((12 : Int) < (s.size : Int)) = true := by simp; omega
      go_enter Try.func57, Try.ntmps57
      go_wp2
      go_ret
      exact ⟨by rw [Hf.out]; rfl, Below.refl _ _⟩
  · have Hf := Lib.hid (nameS_short s (by omega))
    have hne : s.toList.isEmpty = true := by
      rw [Lib.toList_data]
      have hl : s.data.toList.length = s.size := by simp
      cases e : s.data.toList with
      | nil => rfl
      | cons a l => rw [e] at hl; simp at hl; omega
    go_enter Try.func57, Try.ntmps57
    go_wp2
    go_ret
    exact ⟨by rw [Hf.out]; rfl, Below.refl _ _⟩
end Go.Proofs.Ytabnglimchjgpaa
