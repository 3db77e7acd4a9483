/- Contracts of the model's functions that shuffle bytes. No statement is proved here. -/
import Derived.Test.YtmddgncidgdglaaShP
import Derived.Test.YtmddgncidgdglaaAps
import Derived.Test.YtmddgncidgdglaaDimC
namespace Go.Proofs.Ytmddgncidgdglaa
open Go.RowKit
set_option linter.unusedVariables false
theorem quo_nat (n C : Nat) : Int.tdiv (n : Int) (C : Int) = ((n / C : Nat) : Int) := by rw [Int.tdiv_eq_ediv_of_nonneg (by omega)]; rfl
theorem l18Shuffle_any (s : ByteArray) (C : Nat) (hC : 1 ≤ C) (hC2 : C ≤ 24) (hs : s.size ≤ 1100) (w : World) :
    Calls Try.prog 58 #[.string s, .int .i64 C] w fun e w' => e = .returned (.string (shS s (s.size / C) C)) ∧ Below w.heap.size w w' := by
  have hR : s.size / C * C ≤ s.size := Nat.div_mul_le_self _ _
  have hq := quo_nat s.size C
  have hR2 : s.size / C ≤ 1100 := Nat.le_trans (Nat.div_le_self _ _) hs
  have hrest := shP_rest s.data.toList (s.size / C) C hR
  have Hrest := Lib.hid hrest; clear hrest
  unfold shS
  generalize s.size / C = R at *
  have hC0 : ¬ (C : Int) = 0 := by omega
  go_enter Try.func58, Try.ntmps58
  go_wp2
  go_loopw [6, 7] (fun v k wr => ∃ j : Nat, j ≤ C ∧ k = .int .i64 (j : Int) ∧ OwnB wr w.heap.size v (shP s.data.toList R C (j * R)) ∧ Below w.heap.size w wr) (fun _ k _ => C - (intOf k).toNat)
  case atStart => exact ⟨0, Nat.zero_le _, rfl, by rw [Nat.zero_mul]; exact World.ownsRow_lit w #[] 0 (Nat.le_refl _) (by decide) rfl, (Below.refl _ _).alloc (Nat.le_refl _) _⟩
  case round =>
    obtain ⟨k, hk, rfl, hown, hbel⟩ := hrel
    by_cases hlt : k < C
    · have Hown := Lib.hid hown; have Hbel := Lib.hid hbel
      clear hown hbel
      go_wp2
      go_loopw [6, 8] (fun v i wq => ∃ j : Nat, j ≤ R ∧ i = .int .i64 (j : Int) ∧ OwnB wq w.heap.size v (shP s.data.toList R C (k * R + j)) ∧ Below w.heap.size w wq) (fun _ i _ => R - (intOf i).toNat)
      case atStart => exact ⟨0, Nat.zero_le _, rfl, Hown.out, Hbel.out⟩
      case round =>
        obtain ⟨i, hi, rfl, hown, hbel⟩ := hrel
        have hsz := hbel.size
        by_cases hil : i < R
        · have hidx : i * C + k < s.size := Nat.lt_of_lt_of_le (sh_lt2 hil hlt) hR
          have hb0 : (0 : Int) ≤ (i : Int) * (C : Int) := Int.mul_nonneg (by omega) (by omega)
          have hb1 : (i : Int) * (C : Int) + k < s.size := by have h2 : ((i * C + k : Nat) : Int) < s.size := by omega
                                                              simpa using h2
          have hst : shP s.data.toList R C (k * R + i) ++ [s[i * C + k]'hidx] = shP s.data.toList R C (k * R + (i + 1)) := by
            rw [show k * R + (i + 1) = (k * R + i) + 1 from rfl, shP_succ, shAt_in _ hil hlt, getD_byte s _ hidx]
          have hlen : (shP s.data.toList R C (k * R + i)).length + 1 ≤ 70368744177664 := by
            rw [shP_length]
            have := sh_lt hil hlt
            omega
          have Hst := Lib.hid hst; have Hown := Lib.hid hown; have Hlen := Lib.hid hlen
          clear hst hown hlen
          go_wp2_with (at_builtin; refine wpList_app wr _ 1 rfl (.tmp 24) (.tmp 32) rfl w.heap.size _ _ Hown.out rfl [s[i * C + k]'hidx] ?c1 rfl rfl Hlen.out hsz ?_)
          case c1 => simp [bv]
          intro v' w1 hown' hbel'
          rw [Hst.out] at hown'
          go_wp2
          go_roundw
          case rel => exact ⟨i + 1, by omega, by go_num, hown', hbel.trans hbel'⟩
          case measure => simp [intOf]; omega
        · obtain rfl : i = R := by omega
          have Hown := Lib.hid hown; clear hown
          go_wp2
          go_roundw
          case rel => exact ⟨k + 1, by omega, by go_num, by rw [Nat.succ_mul]; exact Hown.out, hbel⟩
          case measure => simp [intOf]; omega
    · obtain rfl : k = C := by omega
      have hsz := hbel.size
      obtain ⟨m, hm⟩ : ∃ m : Nat, m = R * k := ⟨_, rfl⟩
      have hmI : (R : Int) * (k : Int) = (m : Int) := by rw [hm]; simp
      rw [Nat.mul_comm k R, ← hm] at hown
      rw [← hm] at hR
      have hfin : shP s.data.toList R k m ++ (s.extract m s.size).data.toList = shP s.data.toList R k s.size := by
        have h1 := Hrest.out
        rw [← hm] at h1
        have h2 : (s.extract m s.size).data.toList = s.data.toList.drop m := by
          rw [ByteArray.data_extract, Array.toList_extract, List.extract_eq_take_drop]
          exact List.take_of_length_le (by rw [List.length_drop]; show s.size - m ≤ s.size - m; omega)
        rw [h2]
        exact h1
      have hlen : (shP s.data.toList R k m).length + (s.extract m s.size).size ≤ 70368744177664 := by
        rw [shP_length, ByteArray.size_extract]
        omega
      have Hown := Lib.hid hown; have Hfin := Lib.hid hfin; have Hlen := Lib.hid hlen
      clear hown hfin hlen hm
      go_wp2_with (at_builtin; refine wpList_appS rfl (.tmp 34) (.tmp 39) rfl w.heap.size _ _ Hown.out rfl (s.extract m s.size) rfl Hlen.out hsz ?_; intro v' w1 hown' hbel'; rw [Hfin.out] at hown'; have hc := conv_own hown'; clear hown')
      go_ret
      exact ⟨rfl, hbel.trans hbel'⟩
theorem l18Unshuffle_any (s : ByteArray) (C : Nat) (hC : 1 ≤ C) (hC2 : C ≤ 24) (hs : s.size ≤ 1100) (w : World) :
    Calls Try.prog 60 #[.string s, .int .i64 C] w fun e w' => e = .returned (.string (shS s C (s.size / C))) ∧ Below w.heap.size w w' := by
  have hR : C * (s.size / C) ≤ s.size := Nat.mul_div_le _ _
  have hq := quo_nat s.size C
  have hR2 : s.size / C ≤ 1100 := Nat.le_trans (Nat.div_le_self _ _) hs
  have hrest := shP_rest s.data.toList C (s.size / C) hR
  have Hrest := Lib.hid hrest; clear hrest
  unfold shS
  generalize s.size / C = R at *
  have hC0 : ¬ (C : Int) = 0 := by omega
  go_enter Try.func60, Try.ntmps60
  go_wp2
  go_loopw [6, 7] (fun v k wr => ∃ j : Nat, j ≤ R ∧ k = .int .i64 (j : Int) ∧ OwnB wr w.heap.size v (shP s.data.toList C R (j * C)) ∧ Below w.heap.size w wr) (fun _ k _ => R - (intOf k).toNat)
  case atStart => exact ⟨0, Nat.zero_le _, rfl, by rw [Nat.zero_mul]; exact World.ownsRow_lit w #[] 0 (Nat.le_refl _) (by decide) rfl, (Below.refl _ _).alloc (Nat.le_refl _) _⟩
  case round =>
    obtain ⟨k, hk, rfl, hown, hbel⟩ := hrel
    by_cases hlt : k < R
    · have Hown := Lib.hid hown; have Hbel := Lib.hid hbel
      clear hown hbel
      go_wp2
      go_loopw [6, 8] (fun v i wq => ∃ j : Nat, j ≤ C ∧ i = .int .i64 (j : Int) ∧ OwnB wq w.heap.size v (shP s.data.toList C R (k * C + j)) ∧ Below w.heap.size w wq) (fun _ i _ => C - (intOf i).toNat)
      case atStart => exact ⟨0, Nat.zero_le _, rfl, Hown.out, Hbel.out⟩
      case round =>
        obtain ⟨i, hi, rfl, hown, hbel⟩ := hrel
        have hsz := hbel.size
        by_cases hil : i < C
        · have hidx : i * R + k < s.size := Nat.lt_of_lt_of_le (sh_lt2 hil hlt) hR
          have hb0 : (0 : Int) ≤ (i : Int) * (R : Int) := Int.mul_nonneg (by omega) (by omega)
          have hb1 : (i : Int) * (R : Int) + k < s.size := by have h2 : ((i * R + k : Nat) : Int) < s.size := by omega
                                                              simpa using h2
          have hst : shP s.data.toList C R (k * C + i) ++ [s[i * R + k]'hidx] = shP s.data.toList C R (k * C + (i + 1)) := by
            rw [show k * C + (i + 1) = (k * C + i) + 1 from rfl, shP_succ, shAt_in _ hil hlt, getD_byte s _ hidx]
          have hlen : (shP s.data.toList C R (k * C + i)).length + 1 ≤ 70368744177664 := by
            rw [shP_length]
            have := sh_lt hil hlt
            omega
          have Hst := Lib.hid hst; have Hown := Lib.hid hown; have Hlen := Lib.hid hlen
          clear hst hown hlen
          go_wp2_with (at_builtin; refine wpList_app wr _ 1 rfl (.tmp 24) (.tmp 32) rfl w.heap.size _ _ Hown.out rfl [s[i * R + k]'hidx] ?c1 rfl rfl Hlen.out hsz ?_)
          case c1 => simp [bv]
          intro v' w1 hown' hbel'
          rw [Hst.out] at hown'
          go_wp2
          go_roundw
          case rel => exact ⟨i + 1, by omega, by go_num, hown', hbel.trans hbel'⟩
          case measure => simp [intOf]; omega
        · obtain rfl : i = C := by omega
          have Hown := Lib.hid hown; clear hown
          go_wp2
          go_roundw
          case rel => exact ⟨k + 1, by omega, by go_num, by rw [Nat.succ_mul]; exact Hown.out, hbel⟩
          case measure => simp [intOf]; omega
    · obtain rfl : k = R := by omega
      have hsz := hbel.size
      obtain ⟨m, hm⟩ : ∃ m : Nat, m = C * k := ⟨_, rfl⟩
      have hmI : (k : Int) * (C : Int) = (m : Int) := by rw [hm, Int.mul_comm]; simp
      rw [Nat.mul_comm k C, ← hm] at hown
      rw [← hm] at hR
      have hfin : shP s.data.toList C k m ++ (s.extract m s.size).data.toList = shP s.data.toList C k s.size := by
        have h1 := Hrest.out
        rw [← hm] at h1
        have h2 : (s.extract m s.size).data.toList = s.data.toList.drop m := by
          rw [ByteArray.data_extract, Array.toList_extract, List.extract_eq_take_drop]
          exact List.take_of_length_le (by rw [List.length_drop]; show s.size - m ≤ s.size - m; omega)
        rw [h2]
        exact h1
      have hlen : (shP s.data.toList C k m).length + (s.extract m s.size).size ≤ 70368744177664 := by
        rw [shP_length, ByteArray.size_extract]
        omega
      have Hown := Lib.hid hown; have Hfin := Lib.hid hfin; have Hlen := Lib.hid hlen
      clear hown hfin hlen hm
      go_wp2_with (at_builtin; refine wpList_appS rfl (.tmp 34) (.tmp 39) rfl w.heap.size _ _ Hown.out rfl (s.extract m s.size) rfl Hlen.out hsz ?_; intro v' w1 hown' hbel'; rw [Hfin.out] at hown'; have hc := conv_own hown'; clear hown')
      go_ret
      exact ⟨rfl, hbel.trans hbel'⟩
/-- What the two functions answer at any size. -/
def isSz (z : Int) : Bool := decide (1 ≤ z) && decide (z ≤ 24)
def shuA (s : ByteArray) (z : Int) : ByteArray := if isSz z && decide (s.size ≤ 1100) then shS s (s.size / z.toNat) z.toNat else ⟨#[]⟩
def ushA (s : ByteArray) (z : Int) : ByteArray := if isSz z && decide (s.size ≤ 1100) then shS s z.toNat (s.size / z.toNat) else ⟨#[]⟩
theorem isSz_inB (z : Int) : inB z 1 24 = isSz z := rfl
theorem specShuffle_any (s : ByteArray) (hs : s.size ≤ 1048576) (z : Int) (w : World) : Calls Try.prog 20 #[.string s, .int .i64 z] w (GivesB (.string (shuA s z)) w) := by
  cases hi : inB z 1 24
  · have Hf : Hid (shuA s z = ⟨#[]⟩) := Lib.hid (by rw [isSz_inB] at hi; simp [shuA, hi])
    have Hi := Lib.hid hi; clear hi
    go_enter Try.func20, Try.ntmps20
    go_wp2_with ((go_at_call 57; refine (l00In_no _ _ _ _ Hi.out).mono ?_; rintro e w' ⟨rfl, rfl⟩))
    go_ret
    exact ⟨by rw [Hf.out]; rfl, Below.refl _ _⟩
  · have hb := inB_iff.1 hi
    obtain ⟨C, rfl⟩ := Int.eq_ofNat_of_zero_le (show 0 ≤ z by omega)
    have hC : 1 ≤ C := by omega
    have hC2 : C ≤ 24 := by omega
    by_cases hl : s.size ≤ 1100
    · have Hf : Hid (shuA s C = shS s (s.size / C) C) := Lib.hid (by rw [isSz_inB] at hi; simp [shuA, hi, hl])
      have HC := Lib.hid (fun W => l18Shuffle_any s C hC hC2 hl W)
      have Hi := Lib.hid hi; clear hi
      generalize shS s (s.size / C) C = R at *
      go_enter Try.func20, Try.ntmps20
      go_wp2_with (first | (go_at_call 57; refine (l00In_yes _ _ _ _ Hi.out).mono ?_; rintro e w' ⟨rfl, rfl⟩) | (go_at_call 58; refine (HC.out _).mono ?_; rintro e w1 ⟨rfl, hbel⟩))
      go_ret
      exact ⟨by rw [Hf.out]; rfl, hbel⟩
    · have Hf : Hid (shuA s C = ⟨#[]⟩) := Lib.hid (by simp [shuA, hl])
      have Hi := Lib.hid hi; clear hi
      go_enter Try.func20, Try.ntmps20
      go_wp2_with ((go_at_call 57; refine (l00In_yes _ _ _ _ Hi.out).mono ?_; rintro e w' ⟨rfl, rfl⟩))
      go_ret
      exact ⟨by rw [Hf.out]; rfl, Below.refl _ _⟩
theorem specUnshuffle_any (s : ByteArray) (hs : s.size ≤ 1048576) (z : Int) (w : World) : Calls Try.prog 22 #[.string s, .int .i64 z] w (GivesB (.string (ushA s z)) w) := by
  cases hi : inB z 1 24
  · have Hf : Hid (ushA s z = ⟨#[]⟩) := Lib.hid (by rw [isSz_inB] at hi; simp [ushA, hi])
    have Hi := Lib.hid hi; clear hi
    go_enter Try.func22, Try.ntmps22
    go_wp2_with ((go_at_call 57; refine (l00In_no _ _ _ _ Hi.out).mono ?_; rintro e w' ⟨rfl, rfl⟩))
    go_ret
    exact ⟨by rw [Hf.out]; rfl, Below.refl _ _⟩
  · have hb := inB_iff.1 hi
    obtain ⟨C, rfl⟩ := Int.eq_ofNat_of_zero_le (show 0 ≤ z by omega)
    have hC : 1 ≤ C := by omega
    have hC2 : C ≤ 24 := by omega
    by_cases hl : s.size ≤ 1100
    · have Hf : Hid (ushA s C = shS s C (s.size / C)) := Lib.hid (by rw [isSz_inB] at hi; simp [ushA, hi, hl])
      have HC := Lib.hid (fun W => l18Unshuffle_any s C hC hC2 hl W)
      have Hi := Lib.hid hi; clear hi
      generalize shS s C (s.size / C) = R at *
      go_enter Try.func22, Try.ntmps22
      go_wp2_with (first | (go_at_call 57; refine (l00In_yes _ _ _ _ Hi.out).mono ?_; rintro e w' ⟨rfl, rfl⟩) | (go_at_call 60; refine (HC.out _).mono ?_; rintro e w1 ⟨rfl, hbel⟩))
      go_ret
      exact ⟨by rw [Hf.out]; rfl, hbel⟩
    · have Hf : Hid (ushA s C = ⟨#[]⟩) := Lib.hid (by simp [ushA, hl])
      have Hi := Lib.hid hi; clear hi
      go_enter Try.func22, Try.ntmps22
      go_wp2_with ((go_at_call 57; refine (l00In_yes _ _ _ _ Hi.out).mono ?_; rintro e w' ⟨rfl, rfl⟩))
      go_ret
      exact ⟨by rw [Hf.out]; rfl, Below.refl _ _⟩
end Go.Proofs.Ytmddgncidgdglaa
