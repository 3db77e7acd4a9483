/- Plain mathematics of the check sum, and the contracts of Crc32, the program's and the model's. No statement is proved here. -/
import Derived.Test.YtiloihepjjhdlaaRows
import Derived.WalkKit
import Derived.WalkSpells
import Derived.Lib.Hide
import Derived.Laws.BitsAllLaws
import Derived.Deep.QuietTactic
import Derived.BigQuiet
import Derived.Below
namespace Go.Proofs.Ytiloihepjjhdlaa
open Go.RowKit
set_option linter.unusedVariables false
/-- One step of the check sum's division. -/
def crcS (c : Nat) : Nat := if c % 2 = 1 then (c / 2) ^^^ 3988292384 else c / 2
def crcN : Nat → Nat → Nat
  | 0, c => c
  | k + 1, c => crcN k (crcS c)
theorem xor_rot (a b p : Nat) : (a ^^^ p) ^^^ (b ^^^ p) = a ^^^ b := by
  rw [Nat.xor_assoc, ← Nat.xor_assoc p b p, Nat.xor_comm p b, Nat.xor_assoc b p p, Nat.xor_self, Nat.xor_zero]
theorem xor_mid (a b p : Nat) : (a ^^^ p) ^^^ b = (a ^^^ b) ^^^ p := by
  rw [Nat.xor_assoc, Nat.xor_comm p b, ← Nat.xor_assoc]
theorem xor_mod2 (a b : Nat) : (a ^^^ b) % 2 = (a + b) % 2 := by
  have h := Nat.xor_mod_two_pow (a := a) (b := b) (n := 1)
  rw [show (2 ^ 1 : Nat) = 2 from rfl] at h
  rw [h]
  rcases Nat.mod_two_eq_zero_or_one a with ha | ha <;> rcases Nat.mod_two_eq_zero_or_one b with hb | hb <;> rw [ha, hb] <;> simp <;> omega
theorem crcS_xor (a b : Nat) : crcS (a ^^^ b) = crcS a ^^^ crcS b := by
  have h := xor_mod2 a b
  have hd : (a ^^^ b) / 2 = a / 2 ^^^ b / 2 := by
    have := Nat.shiftRight_xor_distrib (a := a) (b := b) (i := 1)
    simpa [Nat.shiftRight_eq_div_pow] using this
  unfold crcS
  rw [hd]
  rcases Nat.mod_two_eq_zero_or_one a with ha | ha <;> rcases Nat.mod_two_eq_zero_or_one b with hb | hb
  · rw [if_neg (by omega), if_neg (by omega), if_neg (by omega)]
  · rw [if_pos (by omega), if_neg (by omega), if_pos (by omega), Nat.xor_assoc]
  · rw [if_pos (by omega), if_pos (by omega), if_neg (by omega), xor_mid]
  · rw [if_neg (by omega), if_pos (by omega), if_pos (by omega), xor_rot]
theorem crcN_xor : ∀ (k a b : Nat), crcN k (a ^^^ b) = crcN k a ^^^ crcN k b
  | 0, _, _ => rfl
  | k + 1, a, b => by show crcN k _ = _; rw [crcS_xor, crcN_xor k]; rfl
theorem crcN_even : ∀ (k q : Nat), crcN k (q * 2 ^ k) = q
  | 0, q => by simp [crcN]
  | k + 1, q => by
    show crcN k (crcS (q * 2 ^ (k + 1))) = q
    have : crcS (q * 2 ^ (k + 1)) = q * 2 ^ k := by
      unfold crcS
      rw [Nat.pow_succ, ← Nat.mul_assoc]
      rw [if_neg (by omega)]
      omega
    rw [this, crcN_even k]
theorem xor_split (x : Nat) : (x % 256) ^^^ (x / 256 * 256) = x := by
  apply Nat.eq_of_testBit_eq
  intro i
  have e : (256 : Nat) = 2 ^ 8 := rfl
  rw [Nat.testBit_xor, e, Nat.testBit_mod_two_pow, Nat.testBit_mul_two_pow, Nat.testBit_div_two_pow]
  by_cases h : i < 8
  · have h' : ¬ 8 ≤ i := by omega
    simp [h, h']
  · have : i - 8 + 8 = i := by omega
    simp [h, this]; omega
theorem xor_low (c b : Nat) (hb : b < 256) : (c ^^^ b) / 256 = c / 256 := by
  have := Nat.shiftRight_xor_distrib (a := c) (b := b) (i := 8)
  rw [Nat.shiftRight_eq_div_pow, Nat.shiftRight_eq_div_pow, Nat.shiftRight_eq_div_pow] at this
  have e : b / 2 ^ 8 = 0 := Nat.div_eq_of_lt hb
  rw [e, Nat.xor_zero] at this
  exact this
theorem xor_lowmod (c b : Nat) (hb : b < 256) : (c ^^^ b) % 256 = (c % 256) ^^^ b := by
  have := Nat.xor_mod_two_pow (a := c) (b := b) (n := 8)
  rw [show (2 ^ 8 : Nat) = 256 from rfl, Nat.mod_eq_of_lt hb] at this
  exact this
/-- The division of a byte by eight steps, and by a table's entry. -/
theorem crc_byte (c b : Nat) (hb : b < 256) : crcN 8 (c ^^^ b) = crcN 8 ((c % 256) ^^^ b) ^^^ (c / 256) := by
  have h := xor_split (c ^^^ b)
  rw [xor_low c b hb, xor_lowmod c b hb] at h
  rw [← h, crcN_xor]
  congr 1
  exact crcN_even 8 (c / 256)
theorem crcS_lt (c : Nat) (h : c < 4294967296) : crcS c < 4294967296 := by
  unfold crcS
  split
  · exact Nat.xor_lt_two_pow (n := 32) (by omega) (by omega)
  · omega
theorem crcN_lt : ∀ (k c : Nat), c < 4294967296 → crcN k c < 4294967296
  | 0, _, h => h
  | k + 1, c, h => crcN_lt k _ (crcS_lt c h)
theorem crcN_succ : ∀ (k c : Nat), crcN (k + 1) c = crcS (crcN k c)
  | 0, _ => rfl
  | k + 1, c => by rw [show crcN (k + 1 + 1) c = crcN (k + 1) (crcS c) from rfl, crcN_succ k]; rfl
/-- The check sum's state behind some bytes. -/
def crcL : Nat → List UInt8 → Nat
  | c, [] => c
  | c, b :: l => crcL (crcN 8 (c ^^^ b.toNat)) l
theorem crcL_snoc : ∀ (c : Nat) (l : List UInt8) (b : UInt8), crcL c (l ++ [b]) = crcN 8 (crcL c l ^^^ b.toNat)
  | _, [], _ => rfl
  | c, a :: l, b => crcL_snoc (crcN 8 (c ^^^ a.toNat)) l b
theorem crcL_lt : ∀ (c : Nat) (l : List UInt8), c < 4294967296 → crcL c l < 4294967296
  | _, [], h => h
  | c, b :: l, h => crcL_lt _ l (crcN_lt 8 _ (Nat.xor_lt_two_pow (n := 32) (by omega) (by have := b.toNat_lt; omega)))
theorem crcS_odd (c : Nat) (h : c % 2 = 1) : crcS c = (c / 2) ^^^ 3988292384 := if_pos h
theorem crcS_even (c : Nat) (h : ¬ c % 2 = 1) : crcS c = c / 2 := if_neg h
theorem and1_odd (c : Nat) (hc : c < 4294967296) (h : c % 2 = 1) : bits .and .u32 (c : Int) 1 = 1 := by
  rw [show (1 : Int) = ((1 : Nat) : Int) from rfl, u32_and_nat c 1 hc (by omega), nat_mask1, h]
theorem and1_even (c : Nat) (hc : c < 4294967296) (h : ¬ c % 2 = 1) : bits .and .u32 (c : Int) 1 = 0 := by
  rw [show (1 : Int) = ((1 : Nat) : Int) from rfl, u32_and_nat c 1 hc (by omega), nat_mask1, show c % 2 = 0 from by omega]; rfl
theorem poly_all : bits .and .u32 3988292384 4294967295 = 3988292384 := by decide +kernel
theorem poly_none : bits .and .u32 3988292384 0 = 0 := by decide +kernel
theorem xor_odd (c : Nat) (hc : c < 4294967296) (h : c % 2 = 1) : bits .xor .u32 ((c : Int) / 2) 3988292384 = ((crcS c : Nat) : Int) := by
  rw [crcS_odd c h, show ((c : Int) / 2) = ((c / 2 : Nat) : Int) from by omega, show (3988292384 : Int) = ((3988292384 : Nat) : Int) from rfl, u32_xor_nat _ _ (by omega) (by omega)]
theorem xor_even (c : Nat) (hc : c < 4294967296) (h : ¬ c % 2 = 1) : bits .xor .u32 ((c : Int) / 2) 0 = ((crcS c : Nat) : Int) := by
  rw [crcS_even c h, show ((c : Int) / 2) = ((c / 2 : Nat) : Int) from by omega, show (0 : Int) = ((0 : Nat) : Int) from rfl, u32_xor_nat _ _ (by omega) (by omega), Nat.xor_zero]
set_option maxHeartbeats 400000 in
theorem crcRem_any (b : Nat) (hb : b < 256) (w : World) :
    Calls Try.prog 30 #[.int .u8 (b : Int)] w fun e w' => e = .returned (.int .u32 ((crcN 8 b : Nat) : Int)) ∧ w = w' := by
  go_enter Try.func30, Try.ntmps30
  go_wp2
  go_loop [3, 7] (fun c i => ∃ k : Nat, k ≤ 8 ∧ i = .int .i64 k ∧ c = .int .u32 ((crcN k b : Nat) : Int)) (fun _ i => 8 - (intOf i).toNat)
  case atStart => exact ⟨0, by omega, rfl, rfl⟩
  case round =>
    obtain ⟨k, hk, rfl, rfl⟩ := hrel
    have hlt := crcN_lt k b (by omega)
    have hs := crcN_succ k b
    generalize hc : crcN k b = c at *
    have Hc := Lib.hid hc; clear hc
    by_cases hk8 : k < 8
    · by_cases ho : c % 2 = 1
      · have e1 := and1_odd c hlt ho
        have e2 := poly_all
        have e3 := xor_odd c hlt ho
        have Hs := Lib.hid hs; clear hs
        have Ho := Lib.hid ho; clear ho
        go_wp2
        go_round
        case rel => exact ⟨k + 1, by omega, by go_num, by rw [Hs.out]⟩
        case measure => simp [intOf]; omega
      · have e1 := and1_even c hlt ho
        have e2 := poly_none
        have e3 := xor_even c hlt ho
        have Hs := Lib.hid hs; clear hs
        have Ho := Lib.hid ho; clear ho
        go_wp2
        go_round
        case rel => exact ⟨k + 1, by omega, by go_num, by rw [Hs.out]⟩
        case measure => simp [intOf]; omega
    · obtain rfl : k = 8 := by omega
      have Hs := Lib.hid hs; clear hs
      go_wp2
      go_ret
      exact ⟨by rw [Hc.out]; rfl, rfl⟩
theorem xor_byte (c : Nat) (hc : c < 4294967296) (b : UInt8) : bits .xor .u32 (c : Int) (b.toNat : Int) = ((c ^^^ b.toNat : Nat) : Int) := u32_xor_nat _ _ hc (by have := b.toNat_lt; omega)
theorem xor_top (c : Nat) (hc : c < 4294967296) : bits .xor .u32 (c : Int) 4294967295 = ((c ^^^ 4294967295 : Nat) : Int) := by
  rw [show (4294967295 : Int) = ((4294967295 : Nat) : Int) from rfl, u32_xor_nat _ _ hc (by omega)]
theorem take_snoc (s : ByteArray) (k : Nat) (h : k < s.size) : s.data.toList.take (k + 1) = s.data.toList.take k ++ [s[k]] := by
  rw [List.take_succ_eq_append_getElem (by simpa using h)]; rfl
def crcOut (s : ByteArray) : Int := ((crcL 4294967295 s.data.toList ^^^ 4294967295 : Nat) : Int)
set_option maxHeartbeats 800000 in
theorem specCrc_any (s : ByteArray) (hs : s.size ≤ 1048576) (w : World) :
    Calls Try.prog 10 #[.string s] w fun e w' => e = .returned (.int .i64 (crcOut s)) ∧ w = w' := by
  go_enter Try.func10, Try.ntmps10
  go_wp2
  go_loop [3, 4, 5] (fun c i _ => ∃ k : Nat, k ≤ s.size ∧ i = .int .i64 k ∧ c = .int .u32 ((crcL 4294967295 (s.data.toList.take k) : Nat) : Int)) (fun _ i _ => s.size - (intOf i).toNat)
  case atStart => exact ⟨0, Nat.zero_le _, rfl, rfl⟩
  case round =>
    obtain ⟨k, hk, rfl, rfl⟩ := hrel
    by_cases hlt : k < s.size
    · have hsn := crcL_snoc 4294967295 (s.data.toList.take k) s[k]
      rw [← take_snoc s k hlt] at hsn
      have hc := crcL_lt 4294967295 (s.data.toList.take k) (by omega)
      generalize crcL 4294967295 (s.data.toList.take k) = c at *
      have hc2 : c ^^^ s[k].toNat < 4294967296 := Nat.xor_lt_two_pow (n := 32) (by omega) (by have := (s[k]).toNat_lt; omega)
      have e0 : ((s[k].toNat : Int)) % 4294967296 = (s[k].toNat : Int) := by have := (s[k]).toNat_lt; omega
      have e1 := xor_byte c hc s[k]
      have Hsn := Lib.hid hsn; clear hsn
      generalize hd : (c ^^^ s[k].toNat : Nat) = d at *
      have Hd := Lib.hid hd; clear hd
      go_wp2
      go_loop [3, 5] (fun c j => ∃ q : Nat, q ≤ 8 ∧ j = .int .i64 q ∧ c = .int .u32 ((crcN q d : Nat) : Int)) (fun _ j => 8 - (intOf j).toNat)
      case atStart => exact ⟨0, Nat.zero_le _, rfl, rfl⟩
      case round =>
        obtain ⟨q, hq, rfl, rfl⟩ := hrel
        have hx := crcN_lt q d hc2
        have hs := crcN_succ q d
        generalize hcc : crcN q d = x at *
        have Hcc := Lib.hid hcc; clear hcc
        by_cases hq8 : q < 8
        · by_cases ho : x % 2 = 1
          · have e1 := and1_odd x hx ho
            have e3 := xor_odd x hx ho
            have Hs := Lib.hid hs; clear hs
            have Ho := Lib.hid ho; clear ho
            go_wp2
            go_round
            case rel => exact ⟨q + 1, by omega, by go_num, by rw [Hs.out]⟩
            case measure => simp [intOf]; omega
          · have e1 := and1_even x hx ho
            have e3 := crcS_even x ho
            have e4 : ((x / 2 : Nat) : Int) = (x : Int) / 2 := by omega
            have Hs := Lib.hid hs; clear hs
            have Ho := Lib.hid ho; have H3 := Lib.hid e3; have H4 := Lib.hid e4; clear ho e3 e4
            go_wp2
            go_round
            case rel => exact ⟨q + 1, by omega, by go_num, by rw [Hs.out, H3.out, H4.out]⟩
            case measure => simp [intOf]; omega
        · obtain rfl : q = 8 := by omega
          have Hs := Lib.hid hs; clear hs
          go_wp2
          go_round
          case rel => exact ⟨k + 1, by omega, by go_num, by rw [Hsn.out, Hcc.out]⟩
          case measure => simp [intOf]; omega
    · have hkm : s.data.toList.take k = s.data.toList := List.take_of_length_le (by simp; omega)
      have hc := crcL_lt 4294967295 (s.data.toList.take k) (by omega)
      have Hf : Hid (crcOut s = ((crcL 4294967295 (s.data.toList.take k) ^^^ 4294967295 : Nat) : Int)) := Lib.hid (by rw [hkm]; rfl)
      generalize crcL 4294967295 (s.data.toList.take k) = c at *
      have e1 := xor_top c hc
      have hc2 : c ^^^ 4294967295 < 4294967296 := Nat.xor_lt_two_pow (n := 32) (by omega) (by omega)
      have Hkm := Lib.hid hkm; clear hkm
      go_wp2
      go_ret
      exact ⟨by rw [Hf.out]; rfl, rfl⟩
theorem xor_low8 (c : Nat) (hc : c < 4294967296) (b : UInt8) : bits .xor .u8 ((c : Int) % 256) (b.toNat : Int) = ((c % 256 ^^^ b.toNat : Nat) : Int) := by
  rw [show (c : Int) % 256 = ((c % 256 : Nat) : Int) from by omega, u8_xor_nat _ _ (by omega) (by have := b.toNat_lt; omega)]
theorem xor_high (c : Nat) (hc : c < 4294967296) (x : Nat) (hx : x < 4294967296) : bits .xor .u32 (x : Int) ((c : Int) / 256) = ((x ^^^ (c / 256) : Nat) : Int) := by
  rw [show (c : Int) / 256 = ((c / 256 : Nat) : Int) from by omega, u32_xor_nat _ _ hx (by omega)]
theorem xor_top2 (c : Nat) (hc : c < 4294967296) : bits .xor .u32 IntKind.u32.max (c : Int) = ((c ^^^ 4294967295 : Nat) : Int) := by
  rw [show (IntKind.u32.max : Int) = ((4294967295 : Nat) : Int) from by decide, u32_xor_nat _ _ (by omega) hc, Nat.xor_comm]
set_option maxHeartbeats 800000 in
theorem crcOf_any (s : ByteArray) (hs : s.size ≤ 1048576) (w : World) :
    Calls Try.prog 29 #[.string s, .func (.func 30) #[] #[]] w fun e w' => e = .returned (.int .i64 (crcOut s)) ∧ w = w' := by
  go_enter Try.func29, Try.ntmps29
  go_wp2
  go_loop [5, 6, 9] (fun c _ i => ∃ k : Nat, k ≤ s.size ∧ i = .int .i64 k ∧ c = .int .u32 ((crcL 4294967295 (s.data.toList.take k) : Nat) : Int)) (fun _ _ i => s.size - (intOf i).toNat)
  case atStart => exact ⟨0, Nat.zero_le _, rfl, rfl⟩
  case round =>
    obtain ⟨k, hk, rfl, rfl⟩ := hrel
    by_cases hlt : k < s.size
    · have hsn := crcL_snoc 4294967295 (s.data.toList.take k) s[k]
      rw [← take_snoc s k hlt] at hsn
      have hc := crcL_lt 4294967295 (s.data.toList.take k) (by omega)
      generalize crcL 4294967295 (s.data.toList.take k) = c at *
      have hb := (s[k]).toNat_lt
      rw [crc_byte c _ hb] at hsn
      have e1 := xor_low8 c hc s[k]
      have hd : c % 256 ^^^ s[k].toNat < 256 := Nat.xor_lt_two_pow (n := 8) (by omega) (by omega)
      have hx := crcN_lt 8 (c % 256 ^^^ s[k].toNat) (by omega)
      have e3 := xor_high c hc _ hx
      have Hsn := Lib.hid hsn; clear hsn
      go_wp2_with (go_at_call 30; refine (crcRem_any _ hd _).mono ?_; rintro e w' ⟨rfl, rfl⟩)
      go_round
      case rel => exact ⟨k + 1, by omega, by go_num, by rw [Hsn.out]⟩
      case measure => simp [intOf]; omega
    · have hkm : s.data.toList.take k = s.data.toList := List.take_of_length_le (by simp; omega)
      have hc := crcL_lt 4294967295 (s.data.toList.take k) (by omega)
      have Hf : Hid (crcOut s = ((crcL 4294967295 (s.data.toList.take k) ^^^ 4294967295 : Nat) : Int)) := Lib.hid (by rw [hkm]; rfl)
      generalize crcL 4294967295 (s.data.toList.take k) = c at *
      have e1 := xor_top2 c hc
      have hc2 : c ^^^ 4294967295 < 4294967296 := Nat.xor_lt_two_pow (n := 32) (by omega) (by omega)
      have e5 : wrap64 ((c ^^^ 4294967295 : Nat) : Int) = ((c ^^^ 4294967295 : Nat) : Int) := by
        generalize c ^^^ 4294967295 = z at *
        unfold wrap64; omega
      have Hkm := Lib.hid hkm; clear hkm
      go_wp2
      go_ret
      exact ⟨by rw [Hf.out]; rfl, rfl⟩
theorem implCrc_any (s : ByteArray) (hs : s.size ≤ 1048576) (w : World) :
    Calls Try.prog 11 #[.string s] w fun e w' => e = .returned (.int .i64 (crcOut s)) ∧ w = w' := by
  go_enter Try.func11, Try.ntmps11
  go_wp2_with (go_at_call 29; refine (crcOf_any s hs _).mono ?_; rintro e w' ⟨rfl, rfl⟩)
  go_ret
  exact ⟨rfl, rfl⟩
end Go.Proofs.Ytiloihepjjhdlaa
