/- Numbers replaced by their differences and back: the model's loop, for each width. No statement is proved here. -/
import Derived.Test.YtmddgncidgdglaaDlN
namespace Go.Proofs.Ytmddgncidgdglaa
open Go.RowKit
set_option linter.unusedVariables false
theorem ext_list (s : ByteArray) (m : Nat) : (s.extract m s.size).data.toList = s.data.toList.drop m := by
  rw [ByteArray.data_extract, Array.toList_extract, List.extract_eq_take_drop]
  exact List.take_of_length_le (by rw [List.length_drop]; show s.size - m ≤ s.size - m; omega)
theorem leL_m1 (x y : Int) (h : x % 256 = y % 256) : leL x 1 = leL y 1 := leL_mod (by omega) x y (by simpa using h) 1 (Nat.le_refl _)
theorem leL_m2 (x y : Int) (h : x % 65536 = y % 65536) : leL x 2 = leL y 2 := leL_mod (by omega) x y (by simpa using h) 2 (Nat.le_refl _)
theorem leL_m4 (x y : Int) (h : x % 4294967296 = y % 4294967296) : leL x 4 = leL y 4 := leL_mod (by omega) x y (by simpa using h) 4 (Nat.le_refl _)
theorem dlL_zero (e : Nat → Int) (W : Nat) : dlL e W 0 = [] := rfl
theorem dlS_eq (s : ByteArray) (W : Nat) (e : Nat → Int) : dlS s W e = ⟨(dlL e W (s.size / W) ++ s.data.toList.drop (s.size / W * W)).toArray⟩ := rfl
set_option maxHeartbeats 1000000 in
set_option maxRecDepth 100000 in
theorem l18Delta1F (s : ByteArray) (hs : s.size ≤ 1100) (w : World) :
    Calls Try.prog 62 #[.string s, .int .i64 1, .bool false] w fun e w' => e = .returned (.string (dlS s 1 (dlF s 1))) ∧ Below w.heap.size w w' := by
  have hR : s.size / 1 * 1 ≤ s.size := Nat.div_mul_le_self _ _
  have hq : Int.tdiv (s.size : Int) 1 = ((s.size / 1 : Nat) : Int) := by rw [Int.tdiv_eq_ediv_of_nonneg (by omega)]; rfl
  have hR2 : s.size / 1 ≤ 1100 := Nat.le_trans (Nat.div_le_self _ _) hs
  have hand := fun z => i64_and255 z
  rw [dlS_eq]
  generalize s.size / 1 = R at *
  go_enter Try.func62, Try.ntmps62
  go_wp2
  go_loopw [9, 10, 11, 12] (fun l v k _ wr => ∃ (j : Nat) (z : Int), j ≤ R ∧ k = .int .i64 (j : Int) ∧ l = .int .i64 z ∧ z = prevAt s 1 j ∧ OwnB wr w.heap.size v (dlL (dlF s 1) 1 j) ∧ Below w.heap.size w wr) (fun _ _ k _ _ => R - (intOf k).toNat)
  case atStart => exact ⟨0, 0, Nat.zero_le _, rfl, rfl, rfl, World.ownsRow_lit w #[] 0 (Nat.le_refl _) (by decide) rfl, (Below.refl _ _).alloc (Nat.le_refl _) _⟩
  case round =>
    obtain ⟨i, z, hi, rfl, rfl, hzl, hown, hbel⟩ := hrel
    have Hown := Lib.hid hown; have Hbel := Lib.hid hbel
    clear hown hbel
    by_cases hlt : i < R
    · have hp : i * 1 + 1 ≤ s.size := by omega
      have hn : 0 ≤ numAt s 1 i ∧ numAt s 1 i < 256 := by simpa using numAt_bd s (show 1 = 1 ∨ 1 = 2 ∨ 1 = 4 by omega) i hp
      have HC := Lib.hid (fun W' => l18Number_any (s.extract (i * 1) (i * 1 + 1)) (by rw [ByteArray.size_extract]; omega) W')
      rw [cutL_sub s (i * 1) 1 hp] at HC
      rw [show leVal (cutL s (i * 1) 1) = numAt s 1 i from rfl] at HC
      rw [Nat.mul_one] at HC
      have hz0 : 0 ≤ z ∧ z < 256 := by
        rw [hzl]
        rcases i with _ | i
        · exact ⟨Int.le_refl 0, by show (0 : Int) < 256; omega⟩
        · have := numAt_bd s (show 1 = 1 ∨ 1 = 2 ∨ 1 = 4 by omega) i (by omega)
          simpa [prevAt] using this
      obtain ⟨Y, hY⟩ : ∃ Y : Int, Y = (numAt s 1 i - z) % 256 := ⟨_, rfl⟩
      have hYI : (numAt s 1 i - z) % 256 = Y := hY.symm
      have hle : leL Y 1 = leL (dlF s 1 i) 1 := leL_m1 _ _ (by unfold dlF; rw [← hzl]; omega)
      have hLI : (z + Y) % 256 = numAt s 1 i := by omega
      have Hz : Hid (numAt s 1 i = prevAt s 1 (i + 1)) := Lib.hid rfl
      have HL : Hid (dlL (dlF s 1) 1 i ++ leL Y 1 = dlL (dlF s 1) 1 (i + 1)) := Lib.hid (by rw [dlL_succ, hle])
      clear hle
      generalize hX2 : prevAt s 1 (i + 1) = X2 at *
      have HX2 := Lib.hid hX2; clear hX2
      have hYb : 0 ≤ Y ∧ Y < 256 := by omega
      generalize numAt s 1 i = X at *
      generalize hL2 : dlL (dlF s 1) 1 (i + 1) = L2 at *
      have HL2 := Lib.hid hL2; clear hL2
      have hlen0 : (dlL (dlF s 1) 1 i).length = i * 1 := dlL_length _ _ _
      generalize dlL (dlF s 1) 1 i = L1 at *
      clear hY hzl
      go_wp2_with ((go_at_call 93; refine (HC.out _).mono ?_; rintro e w' ⟨rfl, rfl⟩))
      go_loopw [10, 13] (fun v k wq => ∃ j : Nat, j ≤ 1 ∧ k = .int .i64 (j : Int) ∧ OwnB wq w.heap.size v (L1 ++ leL Y j) ∧ Below w.heap.size w wq) (fun _ k _ => 1 - (intOf k).toNat)
      case atStart => exact ⟨0, Nat.zero_le _, rfl, by rw [show leL Y 0 = [] from rfl, List.append_nil]; exact Hown.out, Hbel.out⟩
      case round =>
        obtain ⟨k, hk, rfl, hown, hbel⟩ := hrel
        have hsz := hbel.size
        have Ho := Lib.hid hown; have Hb := Lib.hid hbel
        clear hown hbel
        by_cases hkl : k < 1
        · have hst : L1 ++ leL Y k ++ [byteOf Y k] = L1 ++ leL Y (k + 1) := by rw [List.append_assoc, ← leL_succ]
          have hlen : (L1 ++ leL Y k).length + 1 ≤ 70368744177664 := by rw [List.length_append, leL_length]; omega
          have Hst := Lib.hid hst; have Hlen := Lib.hid hlen
          clear hst hlen
          go_wp2_with (at_builtin; refine wpList_app _ _ 1 rfl (.tmp 62) (.tmp 69) rfl w.heap.size _ _ Ho.out rfl [byteOf Y k] ?c1 rfl rfl Hlen.out hsz ?_)
          case c1 => simp [bv, byteOf_toNat]
          intro v' w1 hown' hbel'
          have Hon : Hid (OwnB w1 w.heap.size v' (L1 ++ leL Y (k + 1))) := Lib.hid (by rw [← Hst.out, List.append_assoc]; exact hown')
          have Hbn := Lib.hid (Hb.out.trans hbel')
          clear hown' hbel'
          go_wp2
          go_roundw
          case rel => exact ⟨k + 1, by omega, by go_num, Hon.out, Hbn.out⟩
          case measure => simp [intOf]; omega
        · have hkq : k = 1 := by omega
          have Hon : Hid (OwnB wr w.heap.size u10 L2) := Lib.hid (by rw [← HL.out, ← hkq]; exact Ho.out)
          clear hkq
          go_wp2
          go_roundw
          case rel => exact ⟨i + 1, X, by omega, by go_num, rfl, by rw [HX2.out]; exact Hz.out, by rw [HL2.out]; exact Hon.out, Hb.out⟩
          case measure => simp [intOf]; omega
    · have hiR : i = R := by omega
      obtain ⟨m, hm⟩ : ∃ m : Nat, m = R * 1 := ⟨_, rfl⟩
      have hmI : (R : Int) * 1 = (m : Int) := by rw [hm]; simp
      have hmS : m ≤ s.size := by omega
      have hsz := Hbel.out.size
      have hfin : dlL (dlF s 1) 1 i ++ (s.extract m s.size).data.toList = dlL (dlF s 1) 1 R ++ s.data.toList.drop (R * 1) := by rw [hiR, ext_list, hm]
      have hlen : (dlL (dlF s 1) 1 i).length + (s.extract m s.size).size ≤ 70368744177664 := by rw [dlL_length, ByteArray.size_extract]; omega
      have Hfin := Lib.hid hfin; have Hlen := Lib.hid hlen
      clear hfin hlen hiR hzl
      generalize hRR : dlL (dlF s 1) 1 R ++ s.data.toList.drop (R * 1) = RR at *
      have HRR := Lib.hid hRR; clear hRR
      clear hm
      go_wp2_with (at_builtin; refine wpList_appS rfl (.tmp 71) (.tmp 76) rfl w.heap.size _ _ Hown.out rfl (s.extract m s.size) rfl Hlen.out hsz ?_; intro v' w1 hown' hbel'; rw [Hfin.out] at hown'; have hc := conv_own hown'; clear hown')
      go_ret
      exact ⟨by rw [HRR.out]; rfl, Hbel.out.trans hbel'⟩
set_option maxHeartbeats 1000000 in
set_option maxRecDepth 100000 in
theorem l18Delta1B (s : ByteArray) (hs : s.size ≤ 1100) (w : World) :
    Calls Try.prog 62 #[.string s, .int .i64 1, .bool true] w fun e w' => e = .returned (.string (dlS s 1 (dlB s 1))) ∧ Below w.heap.size w w' := by
  have hR : s.size / 1 * 1 ≤ s.size := Nat.div_mul_le_self _ _
  have hq : Int.tdiv (s.size : Int) 1 = ((s.size / 1 : Nat) : Int) := by rw [Int.tdiv_eq_ediv_of_nonneg (by omega)]; rfl
  have hR2 : s.size / 1 ≤ 1100 := Nat.le_trans (Nat.div_le_self _ _) hs
  have hand := fun z => i64_and255 z
  rw [dlS_eq]
  generalize s.size / 1 = R at *
  go_enter Try.func62, Try.ntmps62
  go_wp2
  go_loopw [9, 10, 11, 12] (fun l v k _ wr => ∃ (j : Nat) (z : Int), j ≤ R ∧ k = .int .i64 (j : Int) ∧ l = .int .i64 z ∧ z = sumTo s 1 j % 256 ∧ OwnB wr w.heap.size v (dlL (dlB s 1) 1 j) ∧ Below w.heap.size w wr) (fun _ _ k _ _ => R - (intOf k).toNat)
  case atStart => exact ⟨0, 0, Nat.zero_le _, rfl, rfl, rfl, World.ownsRow_lit w #[] 0 (Nat.le_refl _) (by decide) rfl, (Below.refl _ _).alloc (Nat.le_refl _) _⟩
  case round =>
    obtain ⟨i, z, hi, rfl, rfl, hzl, hown, hbel⟩ := hrel
    have Hown := Lib.hid hown; have Hbel := Lib.hid hbel
    clear hown hbel
    by_cases hlt : i < R
    · have hp : i * 1 + 1 ≤ s.size := by omega
      have hn : 0 ≤ numAt s 1 i ∧ numAt s 1 i < 256 := by simpa using numAt_bd s (show 1 = 1 ∨ 1 = 2 ∨ 1 = 4 by omega) i hp
      have HC := Lib.hid (fun W' => l18Number_any (s.extract (i * 1) (i * 1 + 1)) (by rw [ByteArray.size_extract]; omega) W')
      rw [cutL_sub s (i * 1) 1 hp] at HC
      rw [show leVal (cutL s (i * 1) 1) = numAt s 1 i from rfl] at HC
      rw [Nat.mul_one] at HC
      obtain ⟨Y, hY⟩ : ∃ Y : Int, Y = (numAt s 1 i + z) % 256 := ⟨_, rfl⟩
      have hYI : (numAt s 1 i + z) % 256 = Y := hY.symm
      have hz0 : 0 ≤ z ∧ z < 256 := by omega
      have hse : sumTo s 1 (i + 1) = sumTo s 1 i + numAt s 1 i := rfl
      have hle : leL Y 1 = leL (dlB s 1 i) 1 := leL_m1 _ _ (by unfold dlB; rw [hse]; omega)
      have Hz : Hid (Y = sumTo s 1 (i + 1) % 256) := Lib.hid (by rw [hse]; omega)
      clear hse
      have HL : Hid (dlL (dlB s 1) 1 i ++ leL Y 1 = dlL (dlB s 1) 1 (i + 1)) := Lib.hid (by rw [dlL_succ, hle])
      clear hle
      have hYb : 0 ≤ Y ∧ Y < 256 := by omega
      generalize numAt s 1 i = X at *
      generalize hL2 : dlL (dlB s 1) 1 (i + 1) = L2 at *
      have HL2 := Lib.hid hL2; clear hL2
      have hlen0 : (dlL (dlB s 1) 1 i).length = i * 1 := dlL_length _ _ _
      generalize dlL (dlB s 1) 1 i = L1 at *
      clear hY hzl
      go_wp2_with ((go_at_call 93; refine (HC.out _).mono ?_; rintro e w' ⟨rfl, rfl⟩))
      go_loopw [10, 13] (fun v k wq => ∃ j : Nat, j ≤ 1 ∧ k = .int .i64 (j : Int) ∧ OwnB wq w.heap.size v (L1 ++ leL Y j) ∧ Below w.heap.size w wq) (fun _ k _ => 1 - (intOf k).toNat)
      case atStart => exact ⟨0, Nat.zero_le _, rfl, by rw [show leL Y 0 = [] from rfl, List.append_nil]; exact Hown.out, Hbel.out⟩
      case round =>
        obtain ⟨k, hk, rfl, hown, hbel⟩ := hrel
        have hsz := hbel.size
        have Ho := Lib.hid hown; have Hb := Lib.hid hbel
        clear hown hbel
        by_cases hkl : k < 1
        · have hst : L1 ++ leL Y k ++ [byteOf Y k] = L1 ++ leL Y (k + 1) := by rw [List.append_assoc, ← leL_succ]
          have hlen : (L1 ++ leL Y k).length + 1 ≤ 70368744177664 := by rw [List.length_append, leL_length]; omega
          have Hst := Lib.hid hst; have Hlen := Lib.hid hlen
          clear hst hlen
          go_wp2_with (at_builtin; refine wpList_app _ _ 1 rfl (.tmp 62) (.tmp 69) rfl w.heap.size _ _ Ho.out rfl [byteOf Y k] ?c1 rfl rfl Hlen.out hsz ?_)
          case c1 => simp [bv, byteOf_toNat]
          intro v' w1 hown' hbel'
          have Hon : Hid (OwnB w1 w.heap.size v' (L1 ++ leL Y (k + 1))) := Lib.hid (by rw [← Hst.out, List.append_assoc]; exact hown')
          have Hbn := Lib.hid (Hb.out.trans hbel')
          clear hown' hbel'
          go_wp2
          go_roundw
          case rel => exact ⟨k + 1, by omega, by go_num, Hon.out, Hbn.out⟩
          case measure => simp [intOf]; omega
        · have hkq : k = 1 := by omega
          have Hon : Hid (OwnB wr w.heap.size u10 L2) := Lib.hid (by rw [← HL.out, ← hkq]; exact Ho.out)
          clear hkq
          go_wp2
          go_roundw
          case rel => exact ⟨i + 1, Y, by omega, by go_num, rfl, Hz.out, by rw [HL2.out]; exact Hon.out, Hb.out⟩
          case measure => simp [intOf]; omega
    · have hiR : i = R := by omega
      obtain ⟨m, hm⟩ : ∃ m : Nat, m = R * 1 := ⟨_, rfl⟩
      have hmI : (R : Int) * 1 = (m : Int) := by rw [hm]; simp
      have hmS : m ≤ s.size := by omega
      have hsz := Hbel.out.size
      have hfin : dlL (dlB s 1) 1 i ++ (s.extract m s.size).data.toList = dlL (dlB s 1) 1 R ++ s.data.toList.drop (R * 1) := by rw [hiR, ext_list, hm]
      have hlen : (dlL (dlB s 1) 1 i).length + (s.extract m s.size).size ≤ 70368744177664 := by rw [dlL_length, ByteArray.size_extract]; omega
      have Hfin := Lib.hid hfin; have Hlen := Lib.hid hlen
      clear hfin hlen hiR hzl
      generalize hRR : dlL (dlB s 1) 1 R ++ s.data.toList.drop (R * 1) = RR at *
      have HRR := Lib.hid hRR; clear hRR
      clear hm
      go_wp2_with (at_builtin; refine wpList_appS rfl (.tmp 71) (.tmp 76) rfl w.heap.size _ _ Hown.out rfl (s.extract m s.size) rfl Hlen.out hsz ?_; intro v' w1 hown' hbel'; rw [Hfin.out] at hown'; have hc := conv_own hown'; clear hown')
      go_ret
      exact ⟨by rw [HRR.out]; rfl, Hbel.out.trans hbel'⟩
set_option maxHeartbeats 1000000 in
set_option maxRecDepth 100000 in
theorem l18Delta2F (s : ByteArray) (hs : s.size ≤ 1100) (w : World) :
    Calls Try.prog 62 #[.string s, .int .i64 2, .bool false] w fun e w' => e = .returned (.string (dlS s 2 (dlF s 2))) ∧ Below w.heap.size w w' := by
  have hR : s.size / 2 * 2 ≤ s.size := Nat.div_mul_le_self _ _
  have hq : Int.tdiv (s.size : Int) 2 = ((s.size / 2 : Nat) : Int) := by rw [Int.tdiv_eq_ediv_of_nonneg (by omega)]; rfl
  have hR2 : s.size / 2 ≤ 1100 := Nat.le_trans (Nat.div_le_self _ _) hs
  have hand := fun z => i64_and16 z
  rw [dlS_eq]
  generalize s.size / 2 = R at *
  go_enter Try.func62, Try.ntmps62
  go_wp2
  go_loopw [9, 10, 11, 12] (fun l v k _ wr => ∃ (j : Nat) (z : Int), j ≤ R ∧ k = .int .i64 (j : Int) ∧ l = .int .i64 z ∧ z = prevAt s 2 j ∧ OwnB wr w.heap.size v (dlL (dlF s 2) 2 j) ∧ Below w.heap.size w wr) (fun _ _ k _ _ => R - (intOf k).toNat)
  case atStart => exact ⟨0, 0, Nat.zero_le _, rfl, rfl, rfl, World.ownsRow_lit w #[] 0 (Nat.le_refl _) (by decide) rfl, (Below.refl _ _).alloc (Nat.le_refl _) _⟩
  case round =>
    obtain ⟨i, z, hi, rfl, rfl, hzl, hown, hbel⟩ := hrel
    have Hown := Lib.hid hown; have Hbel := Lib.hid hbel
    clear hown hbel
    by_cases hlt : i < R
    · have hp : i * 2 + 2 ≤ s.size := by omega
      have hn : 0 ≤ numAt s 2 i ∧ numAt s 2 i < 65536 := by simpa using numAt_bd s (show 2 = 1 ∨ 2 = 2 ∨ 2 = 4 by omega) i hp
      have HC := Lib.hid (fun W' => l18Number_any (s.extract (i * 2) (i * 2 + 2)) (by rw [ByteArray.size_extract]; omega) W')
      rw [cutL_sub s (i * 2) 2 hp] at HC
      rw [show leVal (cutL s (i * 2) 2) = numAt s 2 i from rfl] at HC
      have hz0 : 0 ≤ z ∧ z < 65536 := by
        rw [hzl]
        rcases i with _ | i
        · exact ⟨Int.le_refl 0, by show (0 : Int) < 65536; omega⟩
        · have := numAt_bd s (show 2 = 1 ∨ 2 = 2 ∨ 2 = 4 by omega) i (by omega)
          simpa [prevAt] using this
      obtain ⟨Y, hY⟩ : ∃ Y : Int, Y = (numAt s 2 i - z) % 65536 := ⟨_, rfl⟩
      have hYI : (numAt s 2 i - z) % 65536 = Y := hY.symm
      have hle : leL Y 2 = leL (dlF s 2 i) 2 := leL_m2 _ _ (by unfold dlF; rw [← hzl]; omega)
      have hLI : (z + Y) % 65536 = numAt s 2 i := by omega
      have Hz : Hid (numAt s 2 i = prevAt s 2 (i + 1)) := Lib.hid rfl
      have HL : Hid (dlL (dlF s 2) 2 i ++ leL Y 2 = dlL (dlF s 2) 2 (i + 1)) := Lib.hid (by rw [dlL_succ, hle])
      clear hle
      generalize hX2 : prevAt s 2 (i + 1) = X2 at *
      have HX2 := Lib.hid hX2; clear hX2
      have hYb : 0 ≤ Y ∧ Y < 65536 := by omega
      generalize numAt s 2 i = X at *
      generalize hL2 : dlL (dlF s 2) 2 (i + 1) = L2 at *
      have HL2 := Lib.hid hL2; clear hL2
      have hlen0 : (dlL (dlF s 2) 2 i).length = i * 2 := dlL_length _ _ _
      generalize dlL (dlF s 2) 2 i = L1 at *
      clear hY hzl
      go_wp2_with ((go_at_call 93; refine (HC.out _).mono ?_; rintro e w' ⟨rfl, rfl⟩))
      go_loopw [10, 13] (fun v k wq => ∃ j : Nat, j ≤ 2 ∧ k = .int .i64 (j : Int) ∧ OwnB wq w.heap.size v (L1 ++ leL Y j) ∧ Below w.heap.size w wq) (fun _ k _ => 2 - (intOf k).toNat)
      case atStart => exact ⟨0, Nat.zero_le _, rfl, by rw [show leL Y 0 = [] from rfl, List.append_nil]; exact Hown.out, Hbel.out⟩
      case round =>
        obtain ⟨k, hk, rfl, hown, hbel⟩ := hrel
        have hsz := hbel.size
        have Ho := Lib.hid hown; have Hb := Lib.hid hbel
        clear hown hbel
        by_cases hkl : k < 2
        · have hst : L1 ++ leL Y k ++ [byteOf Y k] = L1 ++ leL Y (k + 1) := by rw [List.append_assoc, ← leL_succ]
          have hlen : (L1 ++ leL Y k).length + 1 ≤ 70368744177664 := by rw [List.length_append, leL_length]; omega
          have Hst := Lib.hid hst; have Hlen := Lib.hid hlen
          clear hst hlen
          go_wp2_with (at_builtin; refine wpList_app _ _ 1 rfl (.tmp 62) (.tmp 69) rfl w.heap.size _ _ Ho.out rfl [byteOf Y k] ?c1 rfl rfl Hlen.out hsz ?_)
          case c1 => simp [bv, byteOf_toNat]
          intro v' w1 hown' hbel'
          have Hon : Hid (OwnB w1 w.heap.size v' (L1 ++ leL Y (k + 1))) := Lib.hid (by rw [← Hst.out, List.append_assoc]; exact hown')
          have Hbn := Lib.hid (Hb.out.trans hbel')
          clear hown' hbel'
          go_wp2
          go_roundw
          case rel => exact ⟨k + 1, by omega, by go_num, Hon.out, Hbn.out⟩
          case measure => simp [intOf]; omega
        · have hkq : k = 2 := by omega
          have Hon : Hid (OwnB wr w.heap.size u10 L2) := Lib.hid (by rw [← HL.out, ← hkq]; exact Ho.out)
          clear hkq
          go_wp2
          go_roundw
          case rel => exact ⟨i + 1, X, by omega, by go_num, rfl, by rw [HX2.out]; exact Hz.out, by rw [HL2.out]; exact Hon.out, Hb.out⟩
          case measure => simp [intOf]; omega
    · have hiR : i = R := by omega
      obtain ⟨m, hm⟩ : ∃ m : Nat, m = R * 2 := ⟨_, rfl⟩
      have hmI : (R : Int) * 2 = (m : Int) := by rw [hm]; simp
      have hmS : m ≤ s.size := by omega
      have hsz := Hbel.out.size
      have hfin : dlL (dlF s 2) 2 i ++ (s.extract m s.size).data.toList = dlL (dlF s 2) 2 R ++ s.data.toList.drop (R * 2) := by rw [hiR, ext_list, hm]
      have hlen : (dlL (dlF s 2) 2 i).length + (s.extract m s.size).size ≤ 70368744177664 := by rw [dlL_length, ByteArray.size_extract]; omega
      have Hfin := Lib.hid hfin; have Hlen := Lib.hid hlen
      clear hfin hlen hiR hzl
      generalize hRR : dlL (dlF s 2) 2 R ++ s.data.toList.drop (R * 2) = RR at *
      have HRR := Lib.hid hRR; clear hRR
      clear hm
      go_wp2_with (at_builtin; refine wpList_appS rfl (.tmp 71) (.tmp 76) rfl w.heap.size _ _ Hown.out rfl (s.extract m s.size) rfl Hlen.out hsz ?_; intro v' w1 hown' hbel'; rw [Hfin.out] at hown'; have hc := conv_own hown'; clear hown')
      go_ret
      exact ⟨by rw [HRR.out]; rfl, Hbel.out.trans hbel'⟩
set_option maxHeartbeats 1000000 in
set_option maxRecDepth 100000 in
theorem l18Delta2B (s : ByteArray) (hs : s.size ≤ 1100) (w : World) :
    Calls Try.prog 62 #[.string s, .int .i64 2, .bool true] w fun e w' => e = .returned (.string (dlS s 2 (dlB s 2))) ∧ Below w.heap.size w w' := by
  have hR : s.size / 2 * 2 ≤ s.size := Nat.div_mul_le_self _ _
  have hq : Int.tdiv (s.size : Int) 2 = ((s.size / 2 : Nat) : Int) := by rw [Int.tdiv_eq_ediv_of_nonneg (by omega)]; rfl
  have hR2 : s.size / 2 ≤ 1100 := Nat.le_trans (Nat.div_le_self _ _) hs
  have hand := fun z => i64_and16 z
  rw [dlS_eq]
  generalize s.size / 2 = R at *
  go_enter Try.func62, Try.ntmps62
  go_wp2
  go_loopw [9, 10, 11, 12] (fun l v k _ wr => ∃ (j : Nat) (z : Int), j ≤ R ∧ k = .int .i64 (j : Int) ∧ l = .int .i64 z ∧ z = sumTo s 2 j % 65536 ∧ OwnB wr w.heap.size v (dlL (dlB s 2) 2 j) ∧ Below w.heap.size w wr) (fun _ _ k _ _ => R - (intOf k).toNat)
  case atStart => exact ⟨0, 0, Nat.zero_le _, rfl, rfl, rfl, World.ownsRow_lit w #[] 0 (Nat.le_refl _) (by decide) rfl, (Below.refl _ _).alloc (Nat.le_refl _) _⟩
  case round =>
    obtain ⟨i, z, hi, rfl, rfl, hzl, hown, hbel⟩ := hrel
    have Hown := Lib.hid hown; have Hbel := Lib.hid hbel
    clear hown hbel
    by_cases hlt : i < R
    · have hp : i * 2 + 2 ≤ s.size := by omega
      have hn : 0 ≤ numAt s 2 i ∧ numAt s 2 i < 65536 := by simpa using numAt_bd s (show 2 = 1 ∨ 2 = 2 ∨ 2 = 4 by omega) i hp
      have HC := Lib.hid (fun W' => l18Number_any (s.extract (i * 2) (i * 2 + 2)) (by rw [ByteArray.size_extract]; omega) W')
      rw [cutL_sub s (i * 2) 2 hp] at HC
      rw [show leVal (cutL s (i * 2) 2) = numAt s 2 i from rfl] at HC
      obtain ⟨Y, hY⟩ : ∃ Y : Int, Y = (numAt s 2 i + z) % 65536 := ⟨_, rfl⟩
      have hYI : (numAt s 2 i + z) % 65536 = Y := hY.symm
      have hz0 : 0 ≤ z ∧ z < 65536 := by omega
      have hse : sumTo s 2 (i + 1) = sumTo s 2 i + numAt s 2 i := rfl
      have hle : leL Y 2 = leL (dlB s 2 i) 2 := leL_m2 _ _ (by unfold dlB; rw [hse]; omega)
      have Hz : Hid (Y = sumTo s 2 (i + 1) % 65536) := Lib.hid (by rw [hse]; omega)
      clear hse
      have HL : Hid (dlL (dlB s 2) 2 i ++ leL Y 2 = dlL (dlB s 2) 2 (i + 1)) := Lib.hid (by rw [dlL_succ, hle])
      clear hle
      have hYb : 0 ≤ Y ∧ Y < 65536 := by omega
      generalize numAt s 2 i = X at *
      generalize hL2 : dlL (dlB s 2) 2 (i + 1) = L2 at *
      have HL2 := Lib.hid hL2; clear hL2
      have hlen0 : (dlL (dlB s 2) 2 i).length = i * 2 := dlL_length _ _ _
      generalize dlL (dlB s 2) 2 i = L1 at *
      clear hY hzl
      go_wp2_with ((go_at_call 93; refine (HC.out _).mono ?_; rintro e w' ⟨rfl, rfl⟩))
      go_loopw [10, 13] (fun v k wq => ∃ j : Nat, j ≤ 2 ∧ k = .int .i64 (j : Int) ∧ OwnB wq w.heap.size v (L1 ++ leL Y j) ∧ Below w.heap.size w wq) (fun _ k _ => 2 - (intOf k).toNat)
      case atStart => exact ⟨0, Nat.zero_le _, rfl, by rw [show leL Y 0 = [] from rfl, List.append_nil]; exact Hown.out, Hbel.out⟩
      case round =>
        obtain ⟨k, hk, rfl, hown, hbel⟩ := hrel
        have hsz := hbel.size
        have Ho := Lib.hid hown; have Hb := Lib.hid hbel
        clear hown hbel
        by_cases hkl : k < 2
        · have hst : L1 ++ leL Y k ++ [byteOf Y k] = L1 ++ leL Y (k + 1) := by rw [List.append_assoc, ← leL_succ]
          have hlen : (L1 ++ leL Y k).length + 1 ≤ 70368744177664 := by rw [List.length_append, leL_length]; omega
          have Hst := Lib.hid hst; have Hlen := Lib.hid hlen
          clear hst hlen
          go_wp2_with (at_builtin; refine wpList_app _ _ 1 rfl (.tmp 62) (.tmp 69) rfl w.heap.size _ _ Ho.out rfl [byteOf Y k] ?c1 rfl rfl Hlen.out hsz ?_)
          case c1 => simp [bv, byteOf_toNat]
          intro v' w1 hown' hbel'
          have Hon : Hid (OwnB w1 w.heap.size v' (L1 ++ leL Y (k + 1))) := Lib.hid (by rw [← Hst.out, List.append_assoc]; exact hown')
          have Hbn := Lib.hid (Hb.out.trans hbel')
          clear hown' hbel'
          go_wp2
          go_roundw
          case rel => exact ⟨k + 1, by omega, by go_num, Hon.out, Hbn.out⟩
          case measure => simp [intOf]; omega
        · have hkq : k = 2 := by omega
          have Hon : Hid (OwnB wr w.heap.size u10 L2) := Lib.hid (by rw [← HL.out, ← hkq]; exact Ho.out)
          clear hkq
          go_wp2
          go_roundw
          case rel => exact ⟨i + 1, Y, by omega, by go_num, rfl, Hz.out, by rw [HL2.out]; exact Hon.out, Hb.out⟩
          case measure => simp [intOf]; omega
    · have hiR : i = R := by omega
      obtain ⟨m, hm⟩ : ∃ m : Nat, m = R * 2 := ⟨_, rfl⟩
      have hmI : (R : Int) * 2 = (m : Int) := by rw [hm]; simp
      have hmS : m ≤ s.size := by omega
      have hsz := Hbel.out.size
      have hfin : dlL (dlB s 2) 2 i ++ (s.extract m s.size).data.toList = dlL (dlB s 2) 2 R ++ s.data.toList.drop (R * 2) := by rw [hiR, ext_list, hm]
      have hlen : (dlL (dlB s 2) 2 i).length + (s.extract m s.size).size ≤ 70368744177664 := by rw [dlL_length, ByteArray.size_extract]; omega
      have Hfin := Lib.hid hfin; have Hlen := Lib.hid hlen
      clear hfin hlen hiR hzl
      generalize hRR : dlL (dlB s 2) 2 R ++ s.data.toList.drop (R * 2) = RR at *
      have HRR := Lib.hid hRR; clear hRR
      clear hm
      go_wp2_with (at_builtin; refine wpList_appS rfl (.tmp 71) (.tmp 76) rfl w.heap.size _ _ Hown.out rfl (s.extract m s.size) rfl Hlen.out hsz ?_; intro v' w1 hown' hbel'; rw [Hfin.out] at hown'; have hc := conv_own hown'; clear hown')
      go_ret
      exact ⟨by rw [HRR.out]; rfl, Hbel.out.trans hbel'⟩
set_option maxHeartbeats 1000000 in
set_option maxRecDepth 100000 in
theorem l18Delta4F (s : ByteArray) (hs : s.size ≤ 1100) (w : World) :
    Calls Try.prog 62 #[.string s, .int .i64 4, .bool false] w fun e w' => e = .returned (.string (dlS s 4 (dlF s 4))) ∧ Below w.heap.size w w' := by
  have hR : s.size / 4 * 4 ≤ s.size := Nat.div_mul_le_self _ _
  have hq : Int.tdiv (s.size : Int) 4 = ((s.size / 4 : Nat) : Int) := by rw [Int.tdiv_eq_ediv_of_nonneg (by omega)]; rfl
  have hR2 : s.size / 4 ≤ 1100 := Nat.le_trans (Nat.div_le_self _ _) hs
  have hand := fun z => i64_and32 z
  rw [dlS_eq]
  generalize s.size / 4 = R at *
  go_enter Try.func62, Try.ntmps62
  go_wp2
  go_loopw [9, 10, 11, 12] (fun l v k _ wr => ∃ (j : Nat) (z : Int), j ≤ R ∧ k = .int .i64 (j : Int) ∧ l = .int .i64 z ∧ z = prevAt s 4 j ∧ OwnB wr w.heap.size v (dlL (dlF s 4) 4 j) ∧ Below w.heap.size w wr) (fun _ _ k _ _ => R - (intOf k).toNat)
  case atStart => exact ⟨0, 0, Nat.zero_le _, rfl, rfl, rfl, World.ownsRow_lit w #[] 0 (Nat.le_refl _) (by decide) rfl, (Below.refl _ _).alloc (Nat.le_refl _) _⟩
  case round =>
    obtain ⟨i, z, hi, rfl, rfl, hzl, hown, hbel⟩ := hrel
    have Hown := Lib.hid hown; have Hbel := Lib.hid hbel
    clear hown hbel
    by_cases hlt : i < R
    · have hp : i * 4 + 4 ≤ s.size := by omega
      have hn : 0 ≤ numAt s 4 i ∧ numAt s 4 i < 4294967296 := by simpa using numAt_bd s (show 4 = 1 ∨ 4 = 2 ∨ 4 = 4 by omega) i hp
      have HC := Lib.hid (fun W' => l18Number_any (s.extract (i * 4) (i * 4 + 4)) (by rw [ByteArray.size_extract]; omega) W')
      rw [cutL_sub s (i * 4) 4 hp] at HC
      rw [show leVal (cutL s (i * 4) 4) = numAt s 4 i from rfl] at HC
      have hz0 : 0 ≤ z ∧ z < 4294967296 := by
        rw [hzl]
        rcases i with _ | i
        · exact ⟨Int.le_refl 0, by show (0 : Int) < 4294967296; omega⟩
        · have := numAt_bd s (show 4 = 1 ∨ 4 = 2 ∨ 4 = 4 by omega) i (by omega)
          simpa [prevAt] using this
      obtain ⟨Y, hY⟩ : ∃ Y : Int, Y = (numAt s 4 i - z) % 4294967296 := ⟨_, rfl⟩
      have hYI : (numAt s 4 i - z) % 4294967296 = Y := hY.symm
      have hle : leL Y 4 = leL (dlF s 4 i) 4 := leL_m4 _ _ (by unfold dlF; rw [← hzl]; omega)
      have hLI : (z + Y) % 4294967296 = numAt s 4 i := by omega
      have Hz : Hid (numAt s 4 i = prevAt s 4 (i + 1)) := Lib.hid rfl
      have HL : Hid (dlL (dlF s 4) 4 i ++ leL Y 4 = dlL (dlF s 4) 4 (i + 1)) := Lib.hid (by rw [dlL_succ, hle])
      clear hle
      generalize hX2 : prevAt s 4 (i + 1) = X2 at *
      have HX2 := Lib.hid hX2; clear hX2
      have hYb : 0 ≤ Y ∧ Y < 4294967296 := by omega
      generalize numAt s 4 i = X at *
      generalize hL2 : dlL (dlF s 4) 4 (i + 1) = L2 at *
      have HL2 := Lib.hid hL2; clear hL2
      have hlen0 : (dlL (dlF s 4) 4 i).length = i * 4 := dlL_length _ _ _
      generalize dlL (dlF s 4) 4 i = L1 at *
      clear hY hzl
      go_wp2_with ((go_at_call 93; refine (HC.out _).mono ?_; rintro e w' ⟨rfl, rfl⟩))
      go_loopw [10, 13] (fun v k wq => ∃ j : Nat, j ≤ 4 ∧ k = .int .i64 (j : Int) ∧ OwnB wq w.heap.size v (L1 ++ leL Y j) ∧ Below w.heap.size w wq) (fun _ k _ => 4 - (intOf k).toNat)
      case atStart => exact ⟨0, Nat.zero_le _, rfl, by rw [show leL Y 0 = [] from rfl, List.append_nil]; exact Hown.out, Hbel.out⟩
      case round =>
        obtain ⟨k, hk, rfl, hown, hbel⟩ := hrel
        have hsz := hbel.size
        have Ho := Lib.hid hown; have Hb := Lib.hid hbel
        clear hown hbel
        by_cases hkl : k < 4
        · have hst : L1 ++ leL Y k ++ [byteOf Y k] = L1 ++ leL Y (k + 1) := by rw [List.append_assoc, ← leL_succ]
          have hlen : (L1 ++ leL Y k).length + 1 ≤ 70368744177664 := by rw [List.length_append, leL_length]; omega
          have Hst := Lib.hid hst; have Hlen := Lib.hid hlen
          clear hst hlen
          go_wp2_with (at_builtin; refine wpList_app _ _ 1 rfl (.tmp 62) (.tmp 69) rfl w.heap.size _ _ Ho.out rfl [byteOf Y k] ?c1 rfl rfl Hlen.out hsz ?_)
          case c1 => simp [bv, byteOf_toNat]
          intro v' w1 hown' hbel'
          have Hon : Hid (OwnB w1 w.heap.size v' (L1 ++ leL Y (k + 1))) := Lib.hid (by rw [← Hst.out, List.append_assoc]; exact hown')
          have Hbn := Lib.hid (Hb.out.trans hbel')
          clear hown' hbel'
          go_wp2
          go_roundw
          case rel => exact ⟨k + 1, by omega, by go_num, Hon.out, Hbn.out⟩
          case measure => simp [intOf]; omega
        · have hkq : k = 4 := by omega
          have Hon : Hid (OwnB wr w.heap.size u10 L2) := Lib.hid (by rw [← HL.out, ← hkq]; exact Ho.out)
          clear hkq
          go_wp2
          go_roundw
          case rel => exact ⟨i + 1, X, by omega, by go_num, rfl, by rw [HX2.out]; exact Hz.out, by rw [HL2.out]; exact Hon.out, Hb.out⟩
          case measure => simp [intOf]; omega
    · have hiR : i = R := by omega
      obtain ⟨m, hm⟩ : ∃ m : Nat, m = R * 4 := ⟨_, rfl⟩
      have hmI : (R : Int) * 4 = (m : Int) := by rw [hm]; simp
      have hmS : m ≤ s.size := by omega
      have hsz := Hbel.out.size
      have hfin : dlL (dlF s 4) 4 i ++ (s.extract m s.size).data.toList = dlL (dlF s 4) 4 R ++ s.data.toList.drop (R * 4) := by rw [hiR, ext_list, hm]
      have hlen : (dlL (dlF s 4) 4 i).length + (s.extract m s.size).size ≤ 70368744177664 := by rw [dlL_length, ByteArray.size_extract]; omega
      have Hfin := Lib.hid hfin; have Hlen := Lib.hid hlen
      clear hfin hlen hiR hzl
      generalize hRR : dlL (dlF s 4) 4 R ++ s.data.toList.drop (R * 4) = RR at *
      have HRR := Lib.hid hRR; clear hRR
      clear hm
      go_wp2_with (at_builtin; refine wpList_appS rfl (.tmp 71) (.tmp 76) rfl w.heap.size _ _ Hown.out rfl (s.extract m s.size) rfl Hlen.out hsz ?_; intro v' w1 hown' hbel'; rw [Hfin.out] at hown'; have hc := conv_own hown'; clear hown')
      go_ret
      exact ⟨by rw [HRR.out]; rfl, Hbel.out.trans hbel'⟩
set_option maxHeartbeats 1000000 in
set_option maxRecDepth 100000 in
theorem l18Delta4B (s : ByteArray) (hs : s.size ≤ 1100) (w : World) :
    Calls Try.prog 62 #[.string s, .int .i64 4, .bool true] w fun e w' => e = .returned (.string (dlS s 4 (dlB s 4))) ∧ Below w.heap.size w w' := by
  have hR : s.size / 4 * 4 ≤ s.size := Nat.div_mul_le_self _ _
  have hq : Int.tdiv (s.size : Int) 4 = ((s.size / 4 : Nat) : Int) := by rw [Int.tdiv_eq_ediv_of_nonneg (by omega)]; rfl
  have hR2 : s.size / 4 ≤ 1100 := Nat.le_trans (Nat.div_le_self _ _) hs
  have hand := fun z => i64_and32 z
  rw [dlS_eq]
  generalize s.size / 4 = R at *
  go_enter Try.func62, Try.ntmps62
  go_wp2
  go_loopw [9, 10, 11, 12] (fun l v k _ wr => ∃ (j : Nat) (z : Int), j ≤ R ∧ k = .int .i64 (j : Int) ∧ l = .int .i64 z ∧ z = sumTo s 4 j % 4294967296 ∧ OwnB wr w.heap.size v (dlL (dlB s 4) 4 j) ∧ Below w.heap.size w wr) (fun _ _ k _ _ => R - (intOf k).toNat)
  case atStart => exact ⟨0, 0, Nat.zero_le _, rfl, rfl, rfl, World.ownsRow_lit w #[] 0 (Nat.le_refl _) (by decide) rfl, (Below.refl _ _).alloc (Nat.le_refl _) _⟩
  case round =>
    obtain ⟨i, z, hi, rfl, rfl, hzl, hown, hbel⟩ := hrel
    have Hown := Lib.hid hown; have Hbel := Lib.hid hbel
    clear hown hbel
    by_cases hlt : i < R
    · have hp : i * 4 + 4 ≤ s.size := by omega
      have hn : 0 ≤ numAt s 4 i ∧ numAt s 4 i < 4294967296 := by simpa using numAt_bd s (show 4 = 1 ∨ 4 = 2 ∨ 4 = 4 by omega) i hp
      have HC := Lib.hid (fun W' => l18Number_any (s.extract (i * 4) (i * 4 + 4)) (by rw [ByteArray.size_extract]; omega) W')
      rw [cutL_sub s (i * 4) 4 hp] at HC
      rw [show leVal (cutL s (i * 4) 4) = numAt s 4 i from rfl] at HC
      obtain ⟨Y, hY⟩ : ∃ Y : Int, Y = (numAt s 4 i + z) % 4294967296 := ⟨_, rfl⟩
      have hYI : (numAt s 4 i + z) % 4294967296 = Y := hY.symm
      have hz0 : 0 ≤ z ∧ z < 4294967296 := by omega
      have hse : sumTo s 4 (i + 1) = sumTo s 4 i + numAt s 4 i := rfl
      have hle : leL Y 4 = leL (dlB s 4 i) 4 := leL_m4 _ _ (by unfold dlB; rw [hse]; omega)
      have Hz : Hid (Y = sumTo s 4 (i + 1) % 4294967296) := Lib.hid (by rw [hse]; omega)
      clear hse
      have HL : Hid (dlL (dlB s 4) 4 i ++ leL Y 4 = dlL (dlB s 4) 4 (i + 1)) := Lib.hid (by rw [dlL_succ, hle])
      clear hle
      have hYb : 0 ≤ Y ∧ Y < 4294967296 := by omega
      generalize numAt s 4 i = X at *
      generalize hL2 : dlL (dlB s 4) 4 (i + 1) = L2 at *
      have HL2 := Lib.hid hL2; clear hL2
      have hlen0 : (dlL (dlB s 4) 4 i).length = i * 4 := dlL_length _ _ _
      generalize dlL (dlB s 4) 4 i = L1 at *
      clear hY hzl
      go_wp2_with ((go_at_call 93; refine (HC.out _).mono ?_; rintro e w' ⟨rfl, rfl⟩))
      go_loopw [10, 13] (fun v k wq => ∃ j : Nat, j ≤ 4 ∧ k = .int .i64 (j : Int) ∧ OwnB wq w.heap.size v (L1 ++ leL Y j) ∧ Below w.heap.size w wq) (fun _ k _ => 4 - (intOf k).toNat)
      case atStart => exact ⟨0, Nat.zero_le _, rfl, by rw [show leL Y 0 = [] from rfl, List.append_nil]; exact Hown.out, Hbel.out⟩
      case round =>
        obtain ⟨k, hk, rfl, hown, hbel⟩ := hrel
        have hsz := hbel.size
        have Ho := Lib.hid hown; have Hb := Lib.hid hbel
        clear hown hbel
        by_cases hkl : k < 4
        · have hst : L1 ++ leL Y k ++ [byteOf Y k] = L1 ++ leL Y (k + 1) := by rw [List.append_assoc, ← leL_succ]
          have hlen : (L1 ++ leL Y k).length + 1 ≤ 70368744177664 := by rw [List.length_append, leL_length]; omega
          have Hst := Lib.hid hst; have Hlen := Lib.hid hlen
          clear hst hlen
          go_wp2_with (at_builtin; refine wpList_app _ _ 1 rfl (.tmp 62) (.tmp 69) rfl w.heap.size _ _ Ho.out rfl [byteOf Y k] ?c1 rfl rfl Hlen.out hsz ?_)
          case c1 => simp [bv, byteOf_toNat]
          intro v' w1 hown' hbel'
          have Hon : Hid (OwnB w1 w.heap.size v' (L1 ++ leL Y (k + 1))) := Lib.hid (by rw [← Hst.out, List.append_assoc]; exact hown')
          have Hbn := Lib.hid (Hb.out.trans hbel')
          clear hown' hbel'
          go_wp2
          go_roundw
          case rel => exact ⟨k + 1, by omega, by go_num, Hon.out, Hbn.out⟩
          case measure => simp [intOf]; omega
        · have hkq : k = 4 := by omega
          have Hon : Hid (OwnB wr w.heap.size u10 L2) := Lib.hid (by rw [← HL.out, ← hkq]; exact Ho.out)
          clear hkq
          go_wp2
          go_roundw
          case rel => exact ⟨i + 1, Y, by omega, by go_num, rfl, Hz.out, by rw [HL2.out]; exact Hon.out, Hb.out⟩
          case measure => simp [intOf]; omega
    · have hiR : i = R := by omega
      obtain ⟨m, hm⟩ : ∃ m : Nat, m = R * 4 := ⟨_, rfl⟩
      have hmI : (R : Int) * 4 = (m : Int) := by rw [hm]; simp
      have hmS : m ≤ s.size := by omega
      have hsz := Hbel.out.size
      have hfin : dlL (dlB s 4) 4 i ++ (s.extract m s.size).data.toList = dlL (dlB s 4) 4 R ++ s.data.toList.drop (R * 4) := by rw [hiR, ext_list, hm]
      have hlen : (dlL (dlB s 4) 4 i).length + (s.extract m s.size).size ≤ 70368744177664 := by rw [dlL_length, ByteArray.size_extract]; omega
      have Hfin := Lib.hid hfin; have Hlen := Lib.hid hlen
      clear hfin hlen hiR hzl
      generalize hRR : dlL (dlB s 4) 4 R ++ s.data.toList.drop (R * 4) = RR at *
      have HRR := Lib.hid hRR; clear hRR
      clear hm
      go_wp2_with (at_builtin; refine wpList_appS rfl (.tmp 71) (.tmp 76) rfl w.heap.size _ _ Hown.out rfl (s.extract m s.size) rfl Hlen.out hsz ?_; intro v' w1 hown' hbel'; rw [Hfin.out] at hown'; have hc := conv_own hown'; clear hown')
      go_ret
      exact ⟨by rw [HRR.out]; rfl, Hbel.out.trans hbel'⟩
end Go.Proofs.Ytmddgncidgdglaa
