/- Contracts of the program's functions that shuffle bytes. No statement is proved here. -/
import Derived.Test.YtmddgncidgdglaaShS
namespace Go.Proofs.Ytmddgncidgdglaa
open Go.RowKit
set_option linter.unusedVariables false
theorem transposed_any (s : ByteArray) (R C : Nat) (hRC : R * C ≤ s.size) (hR1 : R ≤ 1100) (hC1 : C ≤ 1100) (hs : s.size ≤ 1100) (w : World) :
    Calls Try.prog 59 #[.string s, .int .i64 R, .int .i64 C] w fun e w' => e = .returned (.string (shS s R C)) ∧ Below w.heap.size w w' := by
  have hcv := run_bytes_of_string (P := Try.prog) w 9 62 5 s Try.underlying9 Try.underlying62 Try.underlying5
  have hge := grownCap_ge w s.size 0 5
  generalize grownCap w s.size 0 5 = cap at *
  have hrow : RowB (w.drew.alloc (.cells (bytesRow s cap) 5 ((bytesRow s cap).size, (bytesRow s cap).size + 1))) w.heap.size s.size (tbAt s.data.toList R C 0) := by
    intro j hj
    have hj' : j < s.data.size := hj
    rw [tbAt_zero]
    refine ⟨?_, ?_⟩
    · have h1 := World.cell?_alloc_mark w.drew (bytesRow s cap) 5 ((bytesRow s cap).size, (bytesRow s cap).size + 1) j
      have h2 : w.drew.heap.size = w.heap.size := rfl
      rw [h2] at h1
      rw [h1, bytesRow_at s cap j hj']
      simp [bv, List.getD, Array.getElem?_eq_getElem hj']
    · have h1 := World.frozen?_alloc_mark w.drew (bytesRow s cap) 5 (bytesRow s cap).size ((bytesRow s cap).size + 1) j
      have h2 : w.drew.heap.size = w.heap.size := rfl
      rw [h2] at h1
      rw [h1]
      have : s.data.size ≤ (bytesRow s cap).size := by unfold bytesRow; simp
      simp
      omega
  generalize bytesRow s cap = D at *
  have hbel : Below w.heap.size w (w.drew.alloc (.cells D 5 (D.size, D.size + 1))) := (Below.drew (Below.refl _ w)).alloc (Nat.le_refl _) _
  have Hrow : Hid (RowB (w.alloc (.cells D 5 (D.size, D.size + 1))).drew w.heap.size s.size (tbAt s.data.toList R C 0)) := Lib.hid hrow
  have Hbel0 : Hid (Below w.heap.size w (w.alloc (.cells D 5 (D.size, D.size + 1))).drew) := Lib.hid hbel
  have Hge := Lib.hid hge
  clear hrow hbel
  go_enter Try.func59, Try.ntmps59
  go_wp2
  clear hcv
  generalize (w.alloc (.cells D 5 (D.size, D.size + 1))).drew = w0 at *
  go_loopw [8, 13] (fun _ i wr => ∃ r : Nat, r ≤ R ∧ i = .int .i64 (r : Int) ∧ RowB wr w.heap.size s.size (tbAt s.data.toList R C (r * C)) ∧ Below w.heap.size w wr) (fun _ i _ => R - (intOf i).toNat)
  case atStart => exact ⟨0, Nat.zero_le _, rfl, by rw [Nat.zero_mul]; exact Hrow.out, Hbel0.out⟩
  case round =>
    obtain ⟨r, hr, rfl, hrow, hbel⟩ := hrel
    have Hrw := Lib.hid hrow; have Hbel := Lib.hid hbel
    clear hrow hbel
    by_cases hlt : r < R
    · go_wp2
      go_loopw [9, 17] (fun _ i wq => ∃ k : Nat, k ≤ C ∧ i = .int .i64 (k : Int) ∧ RowB wq w.heap.size s.size (tbAt s.data.toList R C (r * C + k)) ∧ Below w.heap.size w wq) (fun _ i _ => C - (intOf i).toNat)
      case atStart => exact ⟨0, Nat.zero_le _, rfl, Hrw.out, Hbel.out⟩
      case round =>
        obtain ⟨k, hk, rfl, hrow, hbel⟩ := hrel
        have Hrq := Lib.hid hrow; have Hbq := Lib.hid hbel
        clear hrow hbel
        by_cases hkl : k < C
        · obtain ⟨m, hm⟩ : ∃ m : Nat, m = k * R + r := ⟨_, rfl⟩
          obtain ⟨q, hq⟩ : ∃ q : Nat, q = r * C + k := ⟨_, rfl⟩
          have hmI : (k : Int) * (R : Int) + (r : Int) = (m : Int) := by rw [hm]; simp
          have hqI : (r : Int) * (C : Int) + (k : Int) = (q : Int) := by rw [hq]; simp
          have hml : m < s.size := by rw [hm]; exact Nat.lt_of_lt_of_le (sh_lt hlt hkl) hRC
          have hql : q < s.size := by rw [hq]; exact Nat.lt_of_lt_of_le (sh_lt2 hlt hkl) hRC
          have hn1 : (0 : Int) ≤ (k : Int) * (R : Int) := Int.mul_nonneg (by omega) (by omega)
          have hn2 : (0 : Int) ≤ (r : Int) * (C : Int) := Int.mul_nonneg (by omega) (by omega)
          obtain ⟨ck, fk⟩ := Hrq.out m hml
          have Hset := Lib.hid (Hrq.out.set m hml (s[q]'hql))
          have Hst : Hid (∀ j, (if j = m then s[q]'hql else tbAt s.data.toList R C (r * C + k) j) = tbAt s.data.toList R C (r * C + (k + 1)) j) := Lib.hid (fun j => by
            have := tbAt_succ s.data.toList hlt hkl j
            rw [← hm, ← hq, getD_byte s q hql] at this
            rw [show r * C + (k + 1) = q + 1 by omega, show r * C + k = q from hq.symm]
            exact this)
          have Hm := Lib.hid hm; have Hq := Lib.hid hq
          clear hm hq
          unfold bv at ck
          generalize hX : s[q]'hql = x at *
          go_wp2
          go_roundw
          case rel => exact ⟨k + 1, by omega, by go_num, Hset.out.congr (fun j _ => Hst.out j), Hbq.out.setCell (p := ⟨w.heap.size, m, none⟩) (Nat.le_refl _) _⟩
          case measure => simp [intOf]; omega
        · obtain rfl : k = C := by omega
          go_wp2
          go_roundw
          case rel => exact ⟨r + 1, by omega, by go_num, by rw [Nat.succ_mul]; exact Hrq.out, Hbq.out⟩
          case measure => simp [intOf]; omega
    · obtain rfl : r = R := by omega
      have hc := row_conv s.size _ wr w.heap.size cap (Hrw.out.congr (fun j _ => tbAt_end _ _ _ j))
      have hf : (⟨((List.range s.size).map (shAt s.data.toList r C)).toArray⟩ : ByteArray) = shS s r C := rfl
      rw [hf] at hc
      clear hf
      go_wp2
      go_ret
      exact ⟨rfl, Hbel.out⟩
theorem isShuffleSize_any (z : Int) (w : World) : Calls Try.prog 55 #[.int .i64 z] w (Quiet (.bool (isSz z)) w) := by
  by_cases h1 : 1 ≤ z
  · by_cases h2 : z ≤ 24
    · have Hf : Hid (isSz z = true) := Lib.hid (by simp [isSz, h1, h2])
      go_enter Try.func55, Try.ntmps55
      go_wp2_with go_in
      go_ret
      exact ⟨by rw [Hf.out]; rfl, rfl⟩
    · have Hf : Hid (isSz z = false) := Lib.hid (by simp [isSz, h2])
      go_enter Try.func55, Try.ntmps55
      go_wp2_with go_in
      go_ret
      exact ⟨by rw [Hf.out]; rfl, rfl⟩
  · have Hf : Hid (isSz z = false) := Lib.hid (by simp [isSz, h1])
    go_enter Try.func55, Try.ntmps55
    go_wp2_with go_in
    go_ret
    exact ⟨by rw [Hf.out]; rfl, rfl⟩
theorem implShuffle_any (s : ByteArray) (hs : s.size ≤ 1048576) (z : Int) (w : World) : Calls Try.prog 21 #[.string s, .int .i64 z] w (GivesB (.string (shuA s z)) w) := by
  have HZ := Lib.hid (fun W => isShuffleSize_any z W)
  cases hi : isSz z
  · have Hf : Hid (shuA s z = ⟨#[]⟩) := Lib.hid (by simp [shuA, hi])
    rw [hi] at HZ
    clear hi
    go_enter Try.func21, Try.ntmps21
    go_wp2_with ((go_at_call 55; refine (HZ.out _).mono ?_; rintro e w' ⟨rfl, rfl⟩))
    go_ret
    exact ⟨by rw [Hf.out]; rfl, Below.refl _ _⟩
  · have hb := inB_iff.1 ((isSz_inB z).trans hi)
    rw [hi] at HZ
    obtain ⟨C, rfl⟩ := Int.eq_ofNat_of_zero_le (show 0 ≤ z by omega)
    have hC : 1 ≤ C := by omega
    have hC2 : C ≤ 24 := by omega
    have hC0 : ¬ (C : Int) = 0 := by omega
    by_cases hl : s.size ≤ 1100
    · have Hf : Hid (shuA s C = shS s (s.size / C) C) := Lib.hid (by simp [shuA, hi, hl])
      have hq := quo_nat s.size C
      have hR1 : s.size / C ≤ 1100 := Nat.le_trans (Nat.div_le_self _ _) hl
      have HC := Lib.hid (fun W => transposed_any s (s.size / C) C (Nat.div_mul_le_self _ _) (Nat.le_trans (Nat.div_le_self _ _) hl) (by omega) hl W)
      clear hi
      generalize s.size / C = R at *
      generalize shS s R C = X at *
      go_enter Try.func21, Try.ntmps21
      go_wp2_with (first | (go_at_call 55; refine (HZ.out _).mono ?_; rintro e w' ⟨rfl, rfl⟩) | (go_at_call 59; refine (HC.out _).mono ?_; rintro e w1 ⟨rfl, hbel⟩))
      go_ret
      exact ⟨by rw [Hf.out]; rfl, hbel⟩
    · have Hf : Hid (shuA s C = ⟨#[]⟩) := Lib.hid (by simp [shuA, hl])
      clear hi
      go_enter Try.func21, Try.ntmps21
      go_wp2_with ((go_at_call 55; refine (HZ.out _).mono ?_; rintro e w' ⟨rfl, rfl⟩))
      go_ret
      exact ⟨by rw [Hf.out]; rfl, Below.refl _ _⟩
theorem implUnshuffle_any (s : ByteArray) (hs : s.size ≤ 1048576) (z : Int) (w : World) : Calls Try.prog 23 #[.string s, .int .i64 z] w (GivesB (.string (ushA s z)) w) := by
  have HZ := Lib.hid (fun W => isShuffleSize_any z W)
  cases hi : isSz z
  · have Hf : Hid (ushA s z = ⟨#[]⟩) := Lib.hid (by simp [ushA, hi])
    rw [hi] at HZ
    clear hi
    go_enter Try.func23, Try.ntmps23
    go_wp2_with ((go_at_call 55; refine (HZ.out _).mono ?_; rintro e w' ⟨rfl, rfl⟩))
    go_ret
    exact ⟨by rw [Hf.out]; rfl, Below.refl _ _⟩
  · have hb := inB_iff.1 ((isSz_inB z).trans hi)
    rw [hi] at HZ
    obtain ⟨C, rfl⟩ := Int.eq_ofNat_of_zero_le (show 0 ≤ z by omega)
    have hC : 1 ≤ C := by omega
    have hC2 : C ≤ 24 := by omega
    have hC0 : ¬ (C : Int) = 0 := by omega
    by_cases hl : s.size ≤ 1100
    · have Hf : Hid (ushA s C = shS s C (s.size / C)) := Lib.hid (by simp [ushA, hi, hl])
      have hq := quo_nat s.size C
      have hR1 : s.size / C ≤ 1100 := Nat.le_trans (Nat.div_le_self _ _) hl
      have HC := Lib.hid (fun W => transposed_any s C (s.size / C) (Nat.mul_div_le _ _) (by omega) (Nat.le_trans (Nat.div_le_self _ _) hl) hl W)
      clear hi
      generalize s.size / C = R at *
      generalize shS s C R = X at *
      go_enter Try.func23, Try.ntmps23
      go_wp2_with (first | (go_at_call 55; refine (HZ.out _).mono ?_; rintro e w' ⟨rfl, rfl⟩) | (go_at_call 59; refine (HC.out _).mono ?_; rintro e w1 ⟨rfl, hbel⟩))
      go_ret
      exact ⟨by rw [Hf.out]; rfl, hbel⟩
    · have Hf : Hid (ushA s C = ⟨#[]⟩) := Lib.hid (by simp [ushA, hl])
      clear hi
      go_enter Try.func23, Try.ntmps23
      go_wp2_with ((go_at_call 55; refine (HZ.out _).mono ?_; rintro e w' ⟨rfl, rfl⟩))
      go_ret
      exact ⟨by rw [Hf.out]; rfl, Below.refl _ _⟩
theorem specShuffle_c {s : ByteArray} {z : Int} {w : World} {B : Nat} (hs : s.size ≤ 1048576) (hz : (Lit.int .i64 z).wf = true) (hB : B ≤ w.heap.size) : Calls Try.prog 20 #[.string s, .int .i64 z] w (GivesB (.string (shuA s z)) w) := specShuffle_any s hs z w
theorem implShuffle_c {s : ByteArray} {z : Int} {w : World} {B : Nat} (hs : s.size ≤ 1048576) (hz : (Lit.int .i64 z).wf = true) (hB : B ≤ w.heap.size) : Calls Try.prog 21 #[.string s, .int .i64 z] w (GivesB (.string (shuA s z)) w) := implShuffle_any s hs z w
theorem specUnshuffle_c {s : ByteArray} {z : Int} {w : World} {B : Nat} (hs : s.size ≤ 1048576) (hz : (Lit.int .i64 z).wf = true) (hB : B ≤ w.heap.size) : Calls Try.prog 22 #[.string s, .int .i64 z] w (GivesB (.string (ushA s z)) w) := specUnshuffle_any s hs z w
theorem implUnshuffle_c {s : ByteArray} {z : Int} {w : World} {B : Nat} (hs : s.size ≤ 1048576) (hz : (Lit.int .i64 z).wf = true) (hB : B ≤ w.heap.size) : Calls Try.prog 23 #[.string s, .int .i64 z] w (GivesB (.string (ushA s z)) w) := implUnshuffle_any s hs z w
end Go.Proofs.Ytmddgncidgdglaa
