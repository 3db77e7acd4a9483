/- The contracts of ReadHex, the program's and the model's. No statement is proved here. -/
import Derived.Test.YtjfkfnmbppmbpaaDigit
import Derived.Test.YtjfkfnmbppmbpaaNum
namespace Go.Proofs.Ytjfkfnmbppmbpaa
open Go.RowKit
set_option linter.unusedVariables false
def hxAt (s : ByteArray) (j : Nat) : Int := unhex (s.data.toList.getD j 0)
def okB (s : ByteArray) (k : Nat) : Bool := (List.range k).all fun i => decide (0 ≤ hxAt s (2 * i)) && decide (0 ≤ hxAt s (2 * i + 1))
def outTo (s : ByteArray) (k : Nat) : List UInt8 := (List.range k).map fun i => UInt8.ofNat (hxAt s (2 * i) * 16 + hxAt s (2 * i + 1)).toNat
def rdHex (s : ByteArray) : Value := if s.size % 2 = 0 ∧ okB s (s.size / 2) = true then .tuple #[.string ⟨(outTo s (s.size / 2)).toArray⟩, .bool true] else .tuple #[.string ⟨#[]⟩, .bool false]
theorem rdHex_no {s : ByteArray} (h : ¬ (s.size % 2 = 0 ∧ okB s (s.size / 2) = true)) : rdHex s = .tuple #[.string ⟨#[]⟩, .bool false] := if_neg h
theorem rdHex_yes {s : ByteArray} (h : s.size % 2 = 0 ∧ okB s (s.size / 2) = true) : rdHex s = .tuple #[.string ⟨(outTo s (s.size / 2)).toArray⟩, .bool true] := if_pos h
theorem outTo_length (s : ByteArray) (k : Nat) : (outTo s k).length = k := by simp [outTo]
theorem outTo_succ (s : ByteArray) (k : Nat) : outTo s (k + 1) = outTo s k ++ [UInt8.ofNat (hxAt s (2 * k) * 16 + hxAt s (2 * k + 1)).toNat] := by simp [outTo, List.range_succ]
theorem okB_succ (s : ByteArray) (k : Nat) : okB s (k + 1) = (okB s k && (decide (0 ≤ hxAt s (2 * k)) && decide (0 ≤ hxAt s (2 * k + 1)))) := by simp [okB, List.range_succ]
theorem okB_mono (s : ByteArray) (j : Nat) : ∀ d, okB s (j + d) = true → okB s j = true
  | 0, h => h
  | d + 1, h => by
    rw [← Nat.add_assoc, okB_succ] at h
    simp only [Bool.and_eq_true] at h
    exact okB_mono s j d h.1
theorem okB_bad (s : ByteArray) (k n : Nat) (hk : k < n) (h : ¬ (0 ≤ hxAt s (2 * k) ∧ 0 ≤ hxAt s (2 * k + 1))) : ¬ okB s n = true := by
  intro hn
  have e : n = (k + 1) + (n - (k + 1)) := by omega
  rw [e] at hn
  have := okB_mono s (k + 1) _ hn
  rw [okB_succ] at this
  simp only [Bool.and_eq_true, decide_eq_true_eq] at this
  exact h this.2
theorem or_hex : ∀ x y : Fin 16, bits .or .i64 ((x.val : Int) * 16) (y.val : Int) % 256 = (x.val : Int) * 16 + y.val := by decide +kernel
theorem or_hex' (x y : Int) (h0 : 0 ≤ x) (h1 : x ≤ 15) (h2 : 0 ≤ y) (h3 : y ≤ 15) : bits .or .i64 (x * 16) y % 256 = x * 16 + y := by
  obtain ⟨a, rfl⟩ := Int.eq_ofNat_of_zero_le h0
  obtain ⟨b, rfl⟩ := Int.eq_ofNat_of_zero_le h2
  exact or_hex ⟨a, by omega⟩ ⟨b, by omega⟩
/-- What a round reads: two bytes. -/
theorem pair_reads (s : ByteArray) (k : Nat) (h : 2 * k + 1 < s.size) : ∃ b0 b1 : UInt8, hxAt s (2 * k) = unhex b0 ∧ hxAt s (2 * k + 1) = unhex b1 ∧ (∀ w1, (Instr.index 9 (.string s) (.int .i64 (2 * (k : Int)))).run Try.prog w1 = .ok (.int .u8 (b0.toNat : Int)) w1) ∧
    (∀ w1, (Instr.index 9 (.string s) (.int .i64 (2 * (k : Int) + 1))).run Try.prog w1 = .ok (.int .u8 (b1.toNat : Int)) w1) := by
  have hl : s.data.toList.length = s.size := by simp
  refine ⟨s[2 * k]'(by omega), s[2 * k + 1]'h, ?_, ?_, fun w1 => ?_, fun w1 => ?_⟩
  · unfold hxAt; rw [List.getD, List.getElem?_eq_getElem (by omega)]; rfl
  · unfold hxAt; rw [List.getD, List.getElem?_eq_getElem (by omega)]; rfl
  · rw [run_index_string w1 9 s .i64 _ Try.underlying9, dif_pos ⟨by omega, by omega⟩]
    have e : (2 * (k : Int)).toNat = 2 * k := by omega
    simp only [e]
  · rw [run_index_string w1 9 s .i64 _ Try.underlying9, dif_pos ⟨by omega, by omega⟩]
    have e : (2 * (k : Int) + 1).toNat = 2 * k + 1 := by omega
    simp only [e]
theorem implReadHex_odd (s : ByteArray) (hs : s.size ≤ 1048576) (ho : ¬ s.size % 2 = 0) (w : World) :
    Calls Try.prog 25 #[.string s] w fun e w' => e = .returned (rdHex s) ∧ Below w.heap.size w w' := by
  have Hf := Lib.hid (rdHex_no (s := s) (fun h => ho h.1))
  have h2 : (((s.size : Int) % 2) == 0) = false := by simp; omega
  have h3 : (((s.size : Int) % 2) != 0) = true := by simp; omega
  clear ho
  go_enter Try.func25, Try.ntmps25
  go_wp2
  go_ret2
  exact ⟨by rw [Hf.out]; rfl, Below.refl _ _⟩
theorem specReadHex_odd (s : ByteArray) (hs : s.size ≤ 1048576) (ho : ¬ s.size % 2 = 0) (w : World) :
    Calls Try.prog 35 #[.string s] w fun e w' => e = .returned (rdHex s) ∧ Below w.heap.size w w' := by
  have Hf := Lib.hid (rdHex_no (s := s) (fun h => ho h.1))
  have h2 : (((s.size : Int) % 2) == 0) = false := by simp; omega
  have h3 : (((s.size : Int) % 2) != 0) = true := by simp; omega
  clear ho
  go_enter Try.func35, Try.ntmps35
  go_wp2
  go_ret2
  exact ⟨by rw [Hf.out]; rfl, Below.refl _ _⟩
theorem OwnBset_step (s : ByteArray) (k n : Nat) (h : k < n) (x : UInt8) : (outTo s k ++ List.replicate (n - k) (0 : UInt8)).set k x = outTo s k ++ [x] ++ List.replicate (n - (k + 1)) (0 : UInt8) := by
  have : n - k = (n - (k + 1)) + 1 := by omega
  rw [this, List.replicate_succ, List.set_append_right _ _ (by rw [outTo_length]; exact Nat.le_refl _), outTo_length]
  simp
theorem implReadHex_even (s : ByteArray) (hs : s.size ≤ 1048576) (n : Nat) (hn : s.size = 2 * n) (w : World) :
    Calls Try.prog 25 #[.string s] w fun e w' => e = .returned (rdHex s) ∧ Below w.heap.size w w' := by
  have hn2 : s.size / 2 = n := by omega
  have hbad : (¬ okB s n = true) → rdHex s = .tuple #[.string ⟨#[]⟩, .bool false] := fun h => rdHex_no (fun h' => h (by rw [← hn2]; exact h'.2))
  have hgood : okB s n = true → rdHex s = .tuple #[.string ⟨(outTo s n).toArray⟩, .bool true] := fun h => by
    have := rdHex_yes (s := s) ⟨by omega, by rw [hn2]; exact h⟩
    rwa [hn2] at this
  clear hn2
  have h3 : (((s.size : Int) % 2) != 0) = false := by simp; omega
  have Hbad := Lib.hid hbad; have Hgood := Lib.hid hgood; clear hbad hgood
  obtain ⟨i0, hi, hz0, hz1, hz2⟩ := info_parts Try.infoB
  obtain ⟨w1, hrun, hown, hg⟩ := run_make_full (P := Try.prog) w w.heap.size 22 5 i0 (.int .u8 0) 1 Try.underlying22 hi hz0 hz1 .i64 .i64 n (by rw [hz2]; omega) (by unfold maxLen; omega) (Nat.le_refl _)
  rw [made_zero] at hown
  have hown : OwnB w1 w.heap.size (.slice (some ⟨w.heap.size, 0, none⟩) n n) (outTo s 0 ++ List.replicate (n - 0) (0 : UInt8)) := by
    have e : (outTo s 0 ++ List.replicate (n - 0) (0 : UInt8)) = List.replicate n 0 := by simp [outTo]
    rw [e]; unfold OwnB; rw [List.length_replicate]; exact hown
  have hbel : Below w.heap.size w w1 := (Below.refl _ _).grown hg (Nat.le_refl _) (fun k hk => by cases hk)
  have hq : ((s.size : Int) / 2) = (n : Int) := by omega
  clear hi hz0 hz1 hz2 hg
  have Hown := Lib.hid hown; clear hown
  have n1 : s.size ≤ 2 * n := by omega
  have n2 : 2 * n ≤ s.size := by omega
  clear hn
  go_enter Try.func25, Try.ntmps25
  go_wp2
  clear hrun hq
  go_loopw [5, 6, 7, 18] (fun _ _ _ i wr => ∃ k : Nat, k ≤ n ∧ i = .int .i64 k ∧ OwnB wr w.heap.size (.slice (some ⟨w.heap.size, 0, none⟩) n n) (outTo s k ++ List.replicate (n - k) (0 : UInt8)) ∧ okB s k = true ∧ Below w.heap.size w wr) (fun _ _ _ i _ => n - (intOf i).toNat)
  case atStart => exact ⟨0, Nat.zero_le _, rfl, Hown.out, rfl, hbel⟩
  case round =>
    obtain ⟨k, hk, rfl, hown, hok, hbel⟩ := hrel
    have hsz := hbel.size
    have hl : (outTo s k ++ List.replicate (n - k) (0 : UInt8)).length = n := by rw [List.length_append, outTo_length, List.length_replicate]; omega
    by_cases hlt : k < n
    · obtain ⟨b0, b1, e0, e1, hx0, hx1⟩ := pair_reads s k (by omega)
      have u0 := unhex_bounds b0
      have u1 := unhex_bounds b1
      have hokk := okB_succ s k
      rw [e0, e1, hok] at hokk
      have hout := outTo_succ s k
      rw [e0, e1] at hout
      have hbadk := fun h => okB_bad s k n hlt h
      rw [e0, e1] at hbadk
      have Hokk := Lib.hid hokk; have Hbadk := Lib.hid hbadk
      clear hokk hbadk e0 e1 hok
      by_cases g0 : 0 ≤ unhex b0
      · by_cases g1 : 0 ≤ unhex b1
        · have hfz : wr.frozen? ⟨w.heap.size, k, none⟩ = false := by
            unfold OwnB at hown; rw [hl] at hown; exact World.ownsRow.frozenAt hown k
          have hc0 : wr.cell? ⟨w.heap.size, k, none⟩ = some (.int .u8 0) := by
            have := World.ownsRow.cells (g := w.heap.size) hown rfl k (.int .u8 0) (by
              rw [List.map_append, List.getElem?_append_right (by rw [List.length_map, outTo_length]; exact Nat.le_refl _), List.length_map, outTo_length, Nat.sub_self]
              simp [bv, List.getElem?_replicate]; omega)
            rwa [add_none] at this
          have hset := OwnB.set hown hl.symm k (UInt8.ofNat (unhex b0 * 16 + unhex b1).toNat)
          rw [OwnBset_step s k n hlt, ← hout] at hset
          have ebv : bv (UInt8.ofNat (unhex b0 * 16 + unhex b1).toNat) = .int .u8 (bits .or .i64 (unhex b0 * 16) (unhex b1) % 256) := by
            rw [or_hex' _ _ g0 (by omega) g1 (by omega)]; simp [bv]; omega
          rw [ebv] at hset
          have hok' : okB s (k + 1) = true := by rw [Hokk.out, decide_eq_true g0, decide_eq_true g1]; rfl
          have Hok' := Lib.hid hok'
          have Hset := Lib.hid hset; have Hown := Lib.hid hown; have Hl := Lib.hid hl; have Hout := Lib.hid hout
          clear hset hown hl ebv hok' hout
          go_wp2_with (go_at_call 49; refine (indexDigit _ _).mono ?_; rintro e w' ⟨rfl, rfl⟩)
          go_roundw
          case rel => exact ⟨k + 1, by omega, by go_num, Hset.out, Hok'.out, hbel.setCell (Nat.le_refl _) _⟩
          case measure => simp [intOf]; omega
        · have Hf := Lib.hid (Hbad.out (Hbadk.out (fun h => g1 h.2)))
          have Hown := Lib.hid hown; have Hl := Lib.hid hl; have Hout := Lib.hid hout; clear hown hl hout
          go_wp2_with (go_at_call 49; refine (indexDigit _ _).mono ?_; rintro e w' ⟨rfl, rfl⟩)
          go_ret2
          exact ⟨by rw [Hf.out]; rfl, hbel⟩
      · have Hf := Lib.hid (Hbad.out (Hbadk.out (fun h => g0 h.1)))
        have Hown := Lib.hid hown; have Hl := Lib.hid hl; have Hout := Lib.hid hout; clear hown hl hout
        go_wp2_with (go_at_call 49; refine (indexDigit _ _).mono ?_; rintro e w' ⟨rfl, rfl⟩)
        go_ret2
        exact ⟨by rw [Hf.out]; rfl, hbel⟩
    · obtain rfl : k = n := by omega
      have e : outTo s k ++ List.replicate (k - k) (0 : UInt8) = outTo s k := by simp
      rw [e] at hown
      have hc := conv_own hown
      have Hf := Lib.hid (Hgood.out hok)
      have Hown := Lib.hid hown; clear hown hok e hl
      go_wp2
      go_ret2
      exact ⟨by rw [Hf.out]; rfl, hbel⟩
theorem specReadHex_even (s : ByteArray) (hs : s.size ≤ 1048576) (n : Nat) (hn : s.size = 2 * n) (w : World) :
    Calls Try.prog 35 #[.string s] w fun e w' => e = .returned (rdHex s) ∧ Below w.heap.size w w' := by
  have hn2 : s.size / 2 = n := by omega
  have hbad : (¬ okB s n = true) → rdHex s = .tuple #[.string ⟨#[]⟩, .bool false] := fun h => rdHex_no (fun h' => h (by rw [← hn2]; exact h'.2))
  have hgood : okB s n = true → rdHex s = .tuple #[.string ⟨(outTo s n).toArray⟩, .bool true] := fun h => by
    have := rdHex_yes (s := s) ⟨by omega, by rw [hn2]; exact h⟩
    rwa [hn2] at this
  clear hn2
  have h3 : (((s.size : Int) % 2) != 0) = false := by simp; omega
  have Hbad := Lib.hid hbad; have Hgood := Lib.hid hgood; clear hbad hgood
  have n1 : s.size ≤ 2 * n := by omega
  have n2 : 2 * n ≤ s.size := by omega
  clear hn
  go_enter Try.func35, Try.ntmps35
  go_wp2
  go_loopw [4, 5, 6, 7, 8, 9] (fun v i _ _ _ _ wr => ∃ k : Nat, k ≤ n ∧ i = .int .i64 (2 * (k : Int)) ∧ OwnB wr w.heap.size v (outTo s k) ∧ okB s k = true ∧ Below w.heap.size w wr) (fun _ i _ _ _ _ _ => 2 * n - (intOf i).toNat)
  case atStart => exact ⟨0, Nat.zero_le _, rfl, World.ownsRow_lit w #[] 0 (Nat.le_refl _) (by decide) rfl, rfl, (Below.refl _ _).alloc (Nat.le_refl _) _⟩
  case round =>
    obtain ⟨k, hk, rfl, hown, hok, hbel⟩ := hrel
    have hsz := hbel.size
    by_cases hlt : k < n
    · obtain ⟨b0, b1, e0, e1, hx0, hx1⟩ := pair_reads s k (by omega)
      have u0 := unhex_bounds b0
      have u1 := unhex_bounds b1
      have hokk := okB_succ s k
      rw [e0, e1, hok] at hokk
      have hout := outTo_succ s k
      rw [e0, e1] at hout
      have hbadk := fun h => okB_bad s k n hlt h
      rw [e0, e1] at hbadk
      have Hokk := Lib.hid hokk; have Hout := Lib.hid hout; have Hbadk := Lib.hid hbadk; have Hown := Lib.hid hown
      clear hokk hout hbadk e0 e1 hok hown
      by_cases g0 : 0 ≤ unhex b0
      · by_cases g1 : 0 ≤ unhex b1
        · have v0 : digV (unhex b0) = .tuple #[.int .u8 (unhex b0), .bool true] := by unfold digV; rw [if_pos g0, decide_eq_true g0]
          have v1 : digV (unhex b1) = .tuple #[.int .u8 (unhex b1), .bool true] := by unfold digV; rw [if_pos g1, decide_eq_true g1]
          have hlen : (outTo s k).length + 1 ≤ 70368744177664 := by rw [outTo_length]; omega
          have Hlen := Lib.hid hlen; clear hlen
          go_wp2_with (first | (go_at_call 58; refine (digit_any _ _).mono ?_; rintro e w' ⟨rfl, rfl⟩) | (at_builtin; refine wpList_app wr _ 1 rfl (.tmp 43) (.tmp 48) rfl w.heap.size _ _ Hown.out rfl [UInt8.ofNat (unhex b0 * 16 + unhex b1).toNat] ?c1 rfl rfl Hlen.out hsz ?_))
          case c1 => simp [bv]; omega
          intro v' w1 hown' hbel'
          rw [← Hout.out] at hown'
          have hok' : okB s (k + 1) = true := by rw [Hokk.out, decide_eq_true g0, decide_eq_true g1]; rfl
          have Hok' := Lib.hid hok'; clear hok' v0 v1
          go_wp2
          go_roundw
          case rel => exact ⟨k + 1, by omega, by go_num, hown', Hok'.out, hbel.trans hbel'⟩
          case measure => simp [intOf]; omega
        · have v0 : digV (unhex b0) = .tuple #[.int .u8 (unhex b0), .bool true] := by unfold digV; rw [if_pos g0, decide_eq_true g0]
          have v1 : digV (unhex b1) = .tuple #[.int .u8 0, .bool false] := by unfold digV; rw [if_neg g1, decide_eq_false g1]
          have Hf := Lib.hid (Hbad.out (Hbadk.out (fun h => g1 h.2)))
          clear g0 g1
          go_wp2_with (go_at_call 58; refine (digit_any _ _).mono ?_; rintro e w' ⟨rfl, rfl⟩)
          go_ret2
          exact ⟨by rw [Hf.out]; rfl, hbel⟩
      · have v0 : digV (unhex b0) = .tuple #[.int .u8 0, .bool false] := by unfold digV; rw [if_neg g0, decide_eq_false g0]
        have Hf := Lib.hid (Hbad.out (Hbadk.out (fun h => g0 h.1)))
        obtain ⟨x1, y1, v1⟩ : ∃ (x : Int) (y : Bool), digV (unhex b1) = .tuple #[.int .u8 x, .bool y] := ⟨_, _, rfl⟩
        clear g0
        go_wp2_with (go_at_call 58; refine (digit_any _ _).mono ?_; rintro e w' ⟨rfl, rfl⟩)
        go_ret2
        exact ⟨by rw [Hf.out]; rfl, hbel⟩
    · obtain rfl : k = n := by omega
      have hc := conv_own hown
      have Hf := Lib.hid (Hgood.out hok)
      have Hown := Lib.hid hown; clear hown hok
      have hlt2 : ¬ (2 * (k : Int) + 1 < (s.size : Int)) := by omega
      go_wp2
      go_ret2
      exact ⟨by rw [Hf.out]; rfl, hbel⟩
theorem readHex_both (s : ByteArray) (hs : s.size ≤ 1048576) : ∃ (t : ByteArray) (b : Bool), rdHex s = .tuple #[.string t, .bool b] ∧
    (∀ w : World, Calls Try.prog 25 #[.string s] w fun e w' => e = .returned (.tuple #[.string t, .bool b]) ∧ Below w.heap.size w w') ∧
    (∀ w : World, Calls Try.prog 35 #[.string s] w fun e w' => e = .returned (.tuple #[.string t, .bool b]) ∧ Below w.heap.size w w') := by
  have hf : ∃ (t : ByteArray) (b : Bool), rdHex s = .tuple #[.string t, .bool b] := by
    unfold rdHex; split
    · exact ⟨_, _, rfl⟩
    · exact ⟨_, _, rfl⟩
  obtain ⟨t, b, hf⟩ := hf
  refine ⟨t, b, hf, ?_, ?_⟩
  · intro w
    rw [← hf]
    by_cases ho : s.size % 2 = 0
    · exact implReadHex_even s hs (s.size / 2) (by omega) w
    · exact implReadHex_odd s hs ho w
  · intro w
    rw [← hf]
    by_cases ho : s.size % 2 = 0
    · exact specReadHex_even s hs (s.size / 2) (by omega) w
    · exact specReadHex_odd s hs ho w
end Go.Proofs.Ytjfkfnmbppmbpaa
