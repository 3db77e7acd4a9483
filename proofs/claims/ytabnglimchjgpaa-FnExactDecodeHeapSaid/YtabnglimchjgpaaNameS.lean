/- The contract of the model's IsName. No statement is proved here. -/
import Derived.Test.YtabnglimchjgpaaName
namespace Go.Proofs.Ytabnglimchjgpaa
open Go.RowKit
set_option linter.unusedVariables false
/-- The byte that a round reads. -/
theorem byte_read (s : ByteArray) (pos : Nat) (hp : pos < s.size) (w1 : World) : (Instr.index 9 (.string s) (.int .i64 (pos : Int))).run Try.prog w1 = .ok (.int .u8 ((byteN s pos : Nat) : Int)) w1 := by
  rw [run_index_string w1 9 s .i64 _ Try.underlying9, dif_pos ⟨by omega, by omega⟩, byteN_at s pos hp]
  rfl
theorem byteN_lt (s : ByteArray) (j : Nat) : byteN s j < 256 := byte_lt _
set_option maxHeartbeats 4000000 in
theorem specIsName_loop (s : ByteArray) (h0 : 0 < s.size) (h12 : s.size ≤ 12) (hl : letterN (byteN s 0) = true) (w : World) :
    Calls Try.prog 54 #[.string s] w fun e w' => e = .returned (.bool (nameS s)) ∧ w = w' := by
  have hb0 : ∀ w1, (Instr.index 9 (.string s) (.int .i64 0)).run Try.prog w1 = .ok (.int .u8 ((byteN s 0 : Nat) : Int)) w1 := fun w1 => byte_read s 0 h0 w1
  have hg1 : goodTo s 1 = true := by rw [goodTo_succ]; unfold okAt; rw [hl]; rfl
  have hn0 : ((s.size : Int) == 0) = false := beq_eq_false_iff_ne.2 (by omega)
  have hd12 : decide ((12 : Int) < (s.size : Int)) = false := by simp; omega
  have hli : (65 ≤ byteN s 0 ∧ byteN s 0 ≤ 90) ∨ (97 ≤ byteN s 0 ∧ byteN s 0 ≤ 122) := by
    unfold letterN at hl; simp at hl; omega
  have Hg1 := Lib.hid hg1; clear hg1 hl
  obtain ⟨m, hm⟩ : ∃ m, m = byteN s 0 := ⟨_, rfl⟩
  rw [← hm] at hb0 hli
  clear hm
  have hdd : (decide ((65 : Int) ≤ (m : Int)) = true ∧ decide ((m : Int) ≤ 90) = true) ∨ (decide ((m : Int) ≤ 90) = false ∧ decide ((97 : Int) ≤ (m : Int)) = true ∧ decide ((m : Int) ≤ 122) = true ∧ decide ((65 : Int) ≤ (m : Int)) = true) := by
    rcases hli with ⟨a, b⟩ | ⟨a, b⟩
    · exact .inl ⟨by simp; omega, by simp; omega⟩
    · exact .inr ⟨by simp; omega, by simp; omega, by simp; omega, by simp; omega⟩
  rcases hdd with ⟨k1, k2⟩ | ⟨k1, k2, k3, k4⟩
  all_goals
    go_enter Try.func54, Try.ntmps54
    go_wp2_with go_in
    clear hb0 hli k1 k2
    go_loop [3] (fun i => ∃ pos : Nat, 1 ≤ pos ∧ pos ≤ s.size ∧ i = .int .i64 pos ∧ goodTo s pos = true) (fun i => s.size - (intOf i).toNat)
    case atStart => exact ⟨1, Nat.le_refl _, by omega, rfl, Hg1.out⟩
    case round =>
      obtain ⟨pos, hz, hpos, rfl, hgood⟩ := hrel
      by_cases hp : pos < s.size
      · have hsucc := goodTo_succ s pos
        rw [hgood] at hsucc
        have hread := fun w1 => byte_read s pos hp w1
        have hlt := byteN_lt s pos
        have eb : byteN s pos = byteN s pos := rfl
        obtain ⟨n, hn⟩ : ∃ n, byteN s pos = n := ⟨_, rfl⟩
        rw [hn] at hread hlt
        have Hsucc := Lib.hid hsucc; have Eb := Lib.hid hn; have Hgood := Lib.hid hgood; clear hsucc eb hgood hn
        have hc : (0 ≤ n ∧ n ≤ 47) ∨ (48 ≤ n ∧ n ≤ 57) ∨ (58 ≤ n ∧ n ≤ 64) ∨ (65 ≤ n ∧ n ≤ 90) ∨ (91 ≤ n ∧ n ≤ 94) ∨ (95 ≤ n ∧ n ≤ 95) ∨ (96 ≤ n ∧ n ≤ 96) ∨ (97 ≤ n ∧ n ≤ 122) ∨ (123 ≤ n ∧ n ≤ 255) := by omega
        rcases hc with ⟨q1, q2⟩ | ⟨q1, q2⟩ | ⟨q1, q2⟩ | ⟨q1, q2⟩ | ⟨q1, q2⟩ | ⟨q1, q2⟩ | ⟨q1, q2⟩ | ⟨q1, q2⟩ | ⟨q1, q2⟩
        · have Hf := Lib.hid (nameS_bad s pos hp (ok_no s pos n Eb.out (by omega) (by omega)))
          have d57 : decide ((n : Int) ≤ 57) = true := by simp; omega
          have d90 : decide ((n : Int) ≤ 90) = true := by simp; omega
          have d122 : decide ((n : Int) ≤ 122) = true := by simp; omega
          have g48 : decide ((48 : Int) ≤ (n : Int)) = false := by simp; omega
          have g65 : decide ((65 : Int) ≤ (n : Int)) = false := by simp; omega
          have g97 : decide ((97 : Int) ≤ (n : Int)) = false := by simp; omega
          have e95 : ((n : Int) == 95) = false := by simp; omega
          have f95 : ((n : Int) != 95) = true := by simp; omega
          go_wp2_with go_in
          go_ret
          exact ⟨by rw [Hf.out]; rfl, rfl⟩
        · have Hg' : Hid (goodTo s (pos + 1) = true) := Lib.hid (by rw [Hsucc.out, ok_rest s pos n Eb.out hz (by omega)]; rfl)
          have d57 : decide ((n : Int) ≤ 57) = true := by simp; omega
          have d90 : decide ((n : Int) ≤ 90) = true := by simp; omega
          have d122 : decide ((n : Int) ≤ 122) = true := by simp; omega
          have g48 : decide ((48 : Int) ≤ (n : Int)) = true := by simp; omega
          have g65 : decide ((65 : Int) ≤ (n : Int)) = false := by simp; omega
          have g97 : decide ((97 : Int) ≤ (n : Int)) = false := by simp; omega
          have e95 : ((n : Int) == 95) = false := by simp; omega
          have f95 : ((n : Int) != 95) = true := by simp; omega
          go_wp2_with go_in
          go_round
          case rel => exact ⟨pos + 1, by omega, by omega, by go_num, Hg'.out⟩
          case measure => simp [intOf]; omega
        · have Hf := Lib.hid (nameS_bad s pos hp (ok_no s pos n Eb.out (by omega) (by omega)))
          have d57 : decide ((n : Int) ≤ 57) = false := by simp; omega
          have d90 : decide ((n : Int) ≤ 90) = true := by simp; omega
          have d122 : decide ((n : Int) ≤ 122) = true := by simp; omega
          have g48 : decide ((48 : Int) ≤ (n : Int)) = true := by simp; omega
          have g65 : decide ((65 : Int) ≤ (n : Int)) = false := by simp; omega
          have g97 : decide ((97 : Int) ≤ (n : Int)) = false := by simp; omega
          have e95 : ((n : Int) == 95) = false := by simp; omega
          have f95 : ((n : Int) != 95) = true := by simp; omega
          go_wp2_with go_in
          go_ret
          exact ⟨by rw [Hf.out]; rfl, rfl⟩
        · have Hg' : Hid (goodTo s (pos + 1) = true) := Lib.hid (by rw [Hsucc.out, ok_letter s pos n Eb.out (by omega)]; rfl)
          have d57 : decide ((n : Int) ≤ 57) = false := by simp; omega
          have d90 : decide ((n : Int) ≤ 90) = true := by simp; omega
          have d122 : decide ((n : Int) ≤ 122) = true := by simp; omega
          have g48 : decide ((48 : Int) ≤ (n : Int)) = true := by simp; omega
          have g65 : decide ((65 : Int) ≤ (n : Int)) = true := by simp; omega
          have g97 : decide ((97 : Int) ≤ (n : Int)) = false := by simp; omega
          have e95 : ((n : Int) == 95) = false := by simp; omega
          have f95 : ((n : Int) != 95) = true := by simp; omega
          go_wp2_with go_in
          go_round
          case rel => exact ⟨pos + 1, by omega, by omega, by go_num, Hg'.out⟩
          case measure => simp [intOf]; omega
        · have Hf := Lib.hid (nameS_bad s pos hp (ok_no s pos n Eb.out (by omega) (by omega)))
          have d57 : decide ((n : Int) ≤ 57) = false := by simp; omega
          have d90 : decide ((n : Int) ≤ 90) = false := by simp; omega
          have d122 : decide ((n : Int) ≤ 122) = true := by simp; omega
          have g48 : decide ((48 : Int) ≤ (n : Int)) = true := by simp; omega
          have g65 : decide ((65 : Int) ≤ (n : Int)) = true := by simp; omega
          have g97 : decide ((97 : Int) ≤ (n : Int)) = false := by simp; omega
          have e95 : ((n : Int) == 95) = false := by simp; omega
          have f95 : ((n : Int) != 95) = true := by simp; omega
          go_wp2_with go_in
          go_ret
          exact ⟨by rw [Hf.out]; rfl, rfl⟩
        · have Hg' : Hid (goodTo s (pos + 1) = true) := Lib.hid (by rw [Hsucc.out, ok_rest s pos n Eb.out hz (by omega)]; rfl)
          have d57 : decide ((n : Int) ≤ 57) = false := by simp; omega
          have d90 : decide ((n : Int) ≤ 90) = false := by simp; omega
          have d122 : decide ((n : Int) ≤ 122) = true := by simp; omega
          have g48 : decide ((48 : Int) ≤ (n : Int)) = true := by simp; omega
          have g65 : decide ((65 : Int) ≤ (n : Int)) = true := by simp; omega
          have g97 : decide ((97 : Int) ≤ (n : Int)) = false := by simp; omega
          have e95 : ((n : Int) == 95) = true := by simp; omega
          have f95 : ((n : Int) != 95) = false := by simp; omega
          go_wp2_with go_in
          go_round
          case rel => exact ⟨pos + 1, by omega, by omega, by go_num, Hg'.out⟩
          case measure => simp [intOf]; omega
        · have Hf := Lib.hid (nameS_bad s pos hp (ok_no s pos n Eb.out (by omega) (by omega)))
          have d57 : decide ((n : Int) ≤ 57) = false := by simp; omega
          have d90 : decide ((n : Int) ≤ 90) = false := by simp; omega
          have d122 : decide ((n : Int) ≤ 122) = true := by simp; omega
          have g48 : decide ((48 : Int) ≤ (n : Int)) = true := by simp; omega
          have g65 : decide ((65 : Int) ≤ (n : Int)) = true := by simp; omega
          have g97 : decide ((97 : Int) ≤ (n : Int)) = false := by simp; omega
          have e95 : ((n : Int) == 95) = false := by simp; omega
          have f95 : ((n : Int) != 95) = true := by simp; omega
          go_wp2_with go_in
          go_ret
          exact ⟨by rw [Hf.out]; rfl, rfl⟩
        · have Hg' : Hid (goodTo s (pos + 1) = true) := Lib.hid (by rw [Hsucc.out, ok_letter s pos n Eb.out (by omega)]; rfl)
          have d57 : decide ((n : Int) ≤ 57) = false := by simp; omega
          have d90 : decide ((n : Int) ≤ 90) = false := by simp; omega
          have d122 : decide ((n : Int) ≤ 122) = true := by simp; omega
          have g48 : decide ((48 : Int) ≤ (n : Int)) = true := by simp; omega
          have g65 : decide ((65 : Int) ≤ (n : Int)) = true := by simp; omega
          have g97 : decide ((97 : Int) ≤ (n : Int)) = true := by simp; omega
          have e95 : ((n : Int) == 95) = false := by simp; omega
          have f95 : ((n : Int) != 95) = true := by simp; omega
          go_wp2_with go_in
          go_round
          case rel => exact ⟨pos + 1, by omega, by omega, by go_num, Hg'.out⟩
          case measure => simp [intOf]; omega
        · have Hf := Lib.hid (nameS_bad s pos hp (ok_no s pos n Eb.out (by omega) (by omega)))
          have d57 : decide ((n : Int) ≤ 57) = false := by simp; omega
          have d90 : decide ((n : Int) ≤ 90) = false := by simp; omega
          have d122 : decide ((n : Int) ≤ 122) = false := by simp; omega
          have g48 : decide ((48 : Int) ≤ (n : Int)) = true := by simp; omega
          have g65 : decide ((65 : Int) ≤ (n : Int)) = true := by simp; omega
          have g97 : decide ((97 : Int) ≤ (n : Int)) = true := by simp; omega
          have e95 : ((n : Int) == 95) = false := by simp; omega
          have f95 : ((n : Int) != 95) = true := by simp; omega
          go_wp2_with go_in
          go_ret
          exact ⟨by rw [Hf.out]; rfl, rfl⟩
      · obtain rfl : pos = s.size := by omega
        have Hf := Lib.hid (nameS_good s h0 h12 hgood)
        clear hgood
        go_wp2_with go_in
        go_ret
        exact ⟨by rw [Hf.out]; rfl, rfl⟩
theorem specIsName_any (s : ByteArray) (hs : s.size ≤ 1048576) (w : World) :
    Calls Try.prog 54 #[.string s] w fun e w' => e = .returned (.bool (nameS s)) ∧ w = w' := by
  by_cases h0 : 0 < s.size
  · by_cases h12 : s.size ≤ 12
    · by_cases hl : letterN (byteN s 0) = true
      · exact specIsName_loop s h0 h12 hl w
      · have hb0 : ∀ w1, (Instr.index 9 (.string s) (.int .i64 0)).run Try.prog w1 = .ok (.int .u8 ((byteN s 0 : Nat) : Int)) w1 := fun w1 => byte_read s 0 h0 w1
        have Hf := Lib.hid (nameS_bad s 0 h0 (by unfold okAt; simp [hl]))
        have hn0 : ((s.size : Int) == 0) = false := beq_eq_false_iff_ne.2 (by omega)
        have hd12 : decide ((12 : Int) < (s.size : Int)) = false := by simp; omega
        have hm' := byteN_lt s 0
        obtain ⟨m, hm⟩ : ∃ m, m = byteN s 0 := ⟨_, rfl⟩
        rw [← hm] at hb0 hl hm'
        clear hm
        have hc : (m ≤ 64 ∧ 0 ≤ m) ∨ (91 ≤ m ∧ m ≤ 96) ∨ (123 ≤ m ∧ m ≤ 255) := by
          unfold letterN at hl; simp at hl; omega
        clear hl
        have hdd : (decide ((65 : Int) ≤ (m : Int)) = false ∧ decide ((97 : Int) ≤ (m : Int)) = false) ∨ (decide ((65 : Int) ≤ (m : Int)) = true ∧ decide ((m : Int) ≤ 90) = false ∧ decide ((97 : Int) ≤ (m : Int)) = false) ∨ (decide ((65 : Int) ≤ (m : Int)) = true ∧ decide ((m : Int) ≤ 90) = false ∧ decide ((97 : Int) ≤ (m : Int)) = true ∧ decide ((m : Int) ≤ 122) = false) := by
          rcases hc with ⟨a, b⟩ | ⟨a, b⟩ | ⟨a, b⟩
          · exact .inl ⟨by simp; omega, by simp; omega⟩
          · exact .inr (.inl ⟨by simp; omega, by simp; omega, by simp; omega⟩)
          · exact .inr (.inr ⟨by simp; omega, by simp; omega, by simp; omega, by simp; omega⟩)
        rcases hdd with ⟨k1, k2⟩ | ⟨k1, k2, k3⟩ | ⟨k1, k2, k3, k4⟩
        all_goals
          go_enter Try.func54, Try.ntmps54
          go_wp2_with go_in
          go_ret
          exact ⟨by rw [Hf.out]; rfl, rfl⟩
    · have Hf := Lib.hid (nameS_long s h12)
      have hn0 : ((s.size : Int) == 0) = false := beq_eq_false_iff_ne.2 (by omega)
      have hd12 : decide ((12 : Int) < (s.size : Int)) = true := by simp; omega
      go_enter Try.func54, Try.ntmps54
      go_wp2_with go_in
      go_ret
      exact ⟨by rw [Hf.out]; rfl, rfl⟩
  · have Hf := Lib.hid (nameS_short s (by omega))
    have hn0 : ((s.size : Int) == 0) = true := beq_iff_eq.2 (by omega)
    go_enter Try.func54, Try.ntmps54
    go_wp2_with go_in
    go_ret
    exact ⟨by rw [Hf.out]; rfl, rfl⟩
end Go.Proofs.Ytabnglimchjgpaa
