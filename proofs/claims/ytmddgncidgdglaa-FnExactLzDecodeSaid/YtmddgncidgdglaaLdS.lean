/- The contract of the model's function that reverses the compressor. No statement is proved here. -/
import Derived.Test.YtmddgncidgdglaaLdP
import Derived.Test.YtmddgncidgdglaaRdS
import Derived.Test.YtmddgncidgdglaaAps
import Derived.Deep.QuietTactic
import Derived.BigQuiet
namespace Go.Proofs.Ytmddgncidgdglaa
open Go.RowKit
set_option linter.unusedVariables false
theorem ext_mid (s : ByteArray) (a b : Nat) (h : b ≤ s.size) : (s.extract a b).data.toList = (s.data.toList.drop a).take (b - a) := by
  rw [ByteArray.data_extract, Array.toList_extract, List.extract_eq_take_drop]
set_option maxHeartbeats 4000000 in
set_option maxRecDepth 100000 in
theorem specLzDecode_any (s : ByteArray) (hs : s.size ≤ 1048576) (w : World) :
    Calls Try.prog 32 #[.string s] w (GivesB (ansO (ldL s.size s.data.toList [])) w) := by
  generalize hA : ansO (ldL s.size s.data.toList []) = A
  have HA := Lib.hid hA; clear hA
  go_enter Try.func32, Try.ntmps32
  go_wp2
  go_loopw [4, 5] (fun v k wr => ∃ (i f : Nat) (out : List UInt8), i ≤ s.size ∧ k = .int .i64 (i : Int) ∧ OwnB wr w.heap.size v out ∧ Below w.heap.size w wr ∧ out.length ≤ 1100 ∧ s.size - i ≤ f ∧ ldL f (s.data.toList.drop i) out = ldL s.size s.data.toList []) (fun _ k _ => s.size - (intOf k).toNat)
  case atStart => exact ⟨0, s.size, [], Nat.zero_le _, rfl, World.ownsRow_lit w #[] 0 (Nat.le_refl _) (by decide) rfl, (Below.refl _ _).alloc (Nat.le_refl _) _, Nat.zero_le _, by omega, rfl⟩
  case round =>
    obtain ⟨i, f, out, hi, rfl, hown, hbel, hol, hf, hout⟩ := hrel
    have Hown := Lib.hid hown; have Hbel := Lib.hid hbel; have Hout := Lib.hid hout
    have hsz := hbel.size
    clear hown hbel hout
    obtain ⟨Aw, cw, hu4⟩ : ∃ a n, u4 = .slice a out.length n := own_form Hown.out
    subst hu4
    by_cases hlt : i < s.size
    · have hcmp : (i : Int) < (s.size : Int) := by omega
      obtain ⟨f', rfl⟩ : ∃ f', f = f' + 1 := ⟨f - 1, by omega⟩
      have hd : s.data.toList.drop i = s[i]'hlt :: s.data.toList.drop (i + 1) := by
        rw [List.drop_eq_getElem_cons (i := i) (by simpa using hlt)]
        rfl
      have HO : Hid (ldL s.size s.data.toList [] = ldL (f' + 1) (s[i]'hlt :: s.data.toList.drop (i + 1)) out) := Lib.hid (by rw [← hd]; exact Hout.out.symm)
      have hdl : (s.data.toList.drop (i + 1)).length = s.size - (i + 1) := by rw [List.length_drop]; rfl
      have Hdl := Lib.hid hdl
      clear hd hdl
      generalize hcv : s[i]'hlt = cb at *
      have hc := byte_lt cb
      have hcn : cb.toNat < 256 := cb.toNat_lt
      by_cases hlit : cb.toNat < 128
      · have hlI : (cb.toNat : Int) < 128 := by omega
        by_cases h1 : s.size < i + 2 + cb.toNat
        · have Hf : Hid (A = .tuple #[.string ⟨#[]⟩, .bool false]) := Lib.hid (by rw [← HA.out, HO.out, ldL_lit_no hlit (.inl (by rw [Hdl.out]; omega))]; rfl)
          have hd : decide ((s.size : Int) < (i : Int) + 2 + (cb.toNat : Int)) = true := decide_eq_true (by omega)
          go_wp2_with fail
          go_ret2
          exact ⟨by rw [Hf.out]; rfl, Hbel.out⟩
        have hd : decide ((s.size : Int) < (i : Int) + 2 + (cb.toNat : Int)) = false := decide_eq_false (by omega)
        by_cases h2 : 1100 < out.length + (cb.toNat + 1)
        · have Hf : Hid (A = .tuple #[.string ⟨#[]⟩, .bool false]) := Lib.hid (by rw [← HA.out, HO.out, ldL_lit_no hlit (.inr h2)]; rfl)
          have hd2 : decide ((1100 : Int) < (out.length : Int) + (cb.toNat : Int) + 1) = true := decide_eq_true (by omega)
          go_wp2_with fail
          go_ret2
          exact ⟨by rw [Hf.out]; rfl, Hbel.out⟩
        have hd2 : decide ((1100 : Int) < (out.length : Int) + (cb.toNat : Int) + 1) = false := decide_eq_false (by omega)
        have hx : (s.extract (i + 1) (i + 2 + cb.toNat)).data.toList = (s.data.toList.drop (i + 1)).take (cb.toNat + 1) := by rw [ext_mid _ _ _ (by omega)]; congr 1; omega
        have hxs : (s.extract (i + 1) (i + 2 + cb.toNat)).size = cb.toNat + 1 := by rw [ByteArray.size_extract]; omega
        have HN : Hid (ldL f' (s.data.toList.drop (i + (cb.toNat + 2))) (out ++ (s.extract (i + 1) (i + 2 + cb.toNat)).data.toList) = ldL s.size s.data.toList []) := Lib.hid (by
          rw [HO.out, ldL_lit hlit (by rw [Hdl.out]; omega), hx, List.drop_drop]
          congr 2
          omega)
        have hlen : out.length + (s.extract (i + 1) (i + 2 + cb.toNat)).size ≤ 70368744177664 := by rw [hxs]; omega
        have hol2 : (out ++ (s.extract (i + 1) (i + 2 + cb.toNat)).data.toList).length ≤ 1100 := by rw [List.length_append, hx, List.length_take, Hdl.out]; omega
        have Hlen := Lib.hid hlen; have Hol2 := Lib.hid hol2
        clear hx hxs hlen hol2
        go_wp2_with (at_builtin; refine wpList_appS rfl (.tmp 35) (.tmp 43) rfl w.heap.size _ _ Hown.out rfl (s.extract (i + 1) (i + 2 + cb.toNat)) rfl Hlen.out hsz ?_; intro v' w1 hown' hbel'; have Hon := Lib.hid hown'; have Hbn := Lib.hid (Hbel.out.trans hbel'); clear hown' hbel')
        go_roundw
        case rel => exact ⟨i + (cb.toNat + 2), f', _, by omega, by go_num, Hon.out, Hbn.out, Hol2.out, by omega, HN.out⟩
        case measure => simp [intOf]; omega
      · have hlI : decide ((cb.toNat : Int) < 128) = false := decide_eq_false (by omega)
        by_cases h1 : s.size < i + 3
        · have Hf : Hid (A = .tuple #[.string ⟨#[]⟩, .bool false]) := Lib.hid (by rw [← HA.out, HO.out, ldL_short hlit (by rw [Hdl.out]; omega)]; rfl)
          have hd : decide ((s.size : Int) < (i : Int) + 3) = true := decide_eq_true (by omega)
          go_wp2_with fail
          go_ret2
          exact ⟨by rw [Hf.out]; rfl, Hbel.out⟩
        have hd : decide ((s.size : Int) < (i : Int) + 3) = false := decide_eq_false (by omega)
        have hi1 : i + 1 < s.size := by omega
        have hi2 : i + 2 < s.size := by omega
        have hI1 : (i : Int) + 1 < (s.size : Int) := by omega
        have hI2 : (i : Int) + 2 < (s.size : Int) := by omega
        have hI3 : (0 : Int) ≤ (i : Int) + 1 := by omega
        have hI4 : (0 : Int) ≤ (i : Int) + 2 := by omega
        have hd3 : s.data.toList.drop (i + 1) = s[i + 1]'hi1 :: s[i + 2]'hi2 :: s.data.toList.drop (i + 3) := by
          rw [List.drop_eq_getElem_cons (i := i + 1) (by simpa using hi1), List.drop_eq_getElem_cons (i := i + 2) (by simpa using hi2)]
          rfl
        rw [hd3] at HO
        clear hd3
        have hyq : ∀ h : ((i : Int) + 1).toNat < s.size, s[((i : Int) + 1).toNat]'h = s[i + 1]'hi1 := fun h => by congr 1
        have hzq : ∀ h : ((i : Int) + 2).toNat < s.size, s[((i : Int) + 2).toNat]'h = s[i + 2]'hi2 := fun h => by congr 1
        generalize hyv : s[i + 1]'hi1 = y at *
        generalize hzv : s[i + 2]'hi2 = z at *
        have hy := byte_lt y; have hz := byte_lt z
        obtain ⟨d, hdd⟩ : ∃ d : Nat, d = y.toNat + 256 * z.toNat := ⟨_, rfl⟩
        have hdI : (y.toNat : Int) + 256 * (z.toNat : Int) = (d : Int) := by omega
        have hdb : d < 65536 := by omega
        have Hdd := Lib.hid hdd; clear hdd
        by_cases hbad : d < 1 ∨ out.length < d ∨ 1100 < out.length + (cb.toNat - 125)
        · have Hf : Hid (A = .tuple #[.string ⟨#[]⟩, .bool false]) := Lib.hid (by rw [← HA.out, HO.out, ldL_no hlit (by rw [← Hdd.out]; exact hbad)]; rfl)
          rcases (show d < 1 ∨ (¬ d < 1 ∧ out.length < d) ∨ (¬ d < 1 ∧ ¬ out.length < d ∧ 1100 < out.length + (cb.toNat - 125)) by omega) with hb | ⟨hb1, hb⟩ | ⟨hb1, hb2, hb⟩
          · have e1 : decide ((d : Int) < 1) = true := decide_eq_true (by omega)
            clear hbad hb
            go_wp2_with fail
            go_quiet (fail)
            go_wp2_with fail
            go_ret2
            exact ⟨by rw [Hf.out]; rfl, below_draws Hbel.out _⟩
          · have e1 : decide ((d : Int) < 1) = false := decide_eq_false (by omega)
            have e2 : decide ((out.length : Int) < (d : Int)) = true := decide_eq_true (by omega)
            have e4 : ¬ d ≤ out.length := by omega
            clear hbad
            go_wp2_with fail
            go_quiet (fail)
            go_wp2_with fail
            go_ret2
            exact ⟨by rw [Hf.out]; rfl, below_draws Hbel.out _⟩
          · have e1 : decide ((d : Int) < 1) = false := decide_eq_false (by omega)
            have e2 : decide ((out.length : Int) < (d : Int)) = false := decide_eq_false (by omega)
            have e3 : decide ((1100 : Int) < (out.length : Int) + (cb.toNat : Int) - 125) = true := decide_eq_true (by omega)
            have e4 : (1100 : Int) < (out.length : Int) + (cb.toNat : Int) - 125 := by omega
            have e5 : d ≤ out.length := by omega
            clear hbad hb
            go_wp2_with fail
            go_quiet (fail)
            go_wp2_with fail
            go_ret2
            exact ⟨by rw [Hf.out]; rfl, below_draws Hbel.out _⟩
        have HN : Hid (ldL f' (s.data.toList.drop (i + 3)) (cpN d (cb.toNat - 125) out) = ldL s.size s.data.toList []) := Lib.hid (by rw [HO.out, ldL_match hlit (by rw [← Hdd.out]; exact hbad), ← Hdd.out])
        have e1 : decide ((d : Int) < 1) = false := decide_eq_false (by omega)
        have e2 : decide ((out.length : Int) < (d : Int)) = false := decide_eq_false (by omega)
        have e3 : decide ((1100 : Int) < (out.length : Int) + (cb.toNat : Int) - 125) = false := decide_eq_false (by omega)
        obtain ⟨N, hN⟩ : ∃ N : Nat, N = cb.toNat - 125 := ⟨_, rfl⟩
        have hNI : (cb.toNat : Int) - 125 = (N : Int) := by omega
        have hob : out.length + N ≤ 1100 := by omega
        have hd1 : 1 ≤ d ∧ d ≤ out.length := by omega
        have hN3 : 3 ≤ N := by omega
        rw [← hN] at HN
        have e4 : (out.length : Int) + (cb.toNat : Int) - 125 ≤ 1100 := by omega
        have e5 : ¬ out.length < d := by omega
        clear hbad hN
        go_wp2_with fail
        go_quiet (fail)
        go_wp2_with fail
        have Hi3 := Lib.hid (show i + 3 ≤ s.size by omega)
        have Hhob := Lib.hid hob; have Hhf := Lib.hid hf
        clear hyq hzq hyv hzv hcv e1 e2 e3 e4 e5 hd hlI hcmp hI1 hI2 hI3 hI4 h1 hlit hi1 hi2 hlt hdI hNI hy hz hc hcn hol hi hf
        go_loopw [4, 8] (fun v k wq => ∃ (j : Nat) (o' : List UInt8), j ≤ N ∧ k = .int .i64 ((N : Int) - (j : Int)) ∧ OwnB wq w.heap.size v o' ∧ Below w.heap.size w wq ∧ o'.length = out.length + j ∧ cpN d (N - j) o' = cpN d N out) (fun _ k _ => (intOf k).toNat)
        case atStart => exact ⟨0, out, Nat.zero_le _, by simp, Hown.out, below_draws Hbel.out _, rfl, rfl⟩
        case round =>
          obtain ⟨j, o', hj, rfl, hown, hbel, hol3, hcp⟩ := hrel
          have Ho := Lib.hid hown; have Hb := Lib.hid hbel; have Hcp := Lib.hid hcp
          have hsz2 := hbel.size
          have Hol3 := Lib.hid hol3
          have ho1 : o'.length ≤ 1100 := by omega
          have ho2 : d ≤ o'.length := by omega
          clear hown hbel hcp hol3
          by_cases hjn : j < N
          · obtain ⟨g, cap, rfl, hgB, hgc, hgm⟩ := ob_some Ho.out (by have := Hol3.out; omega)
            unfold maxLen at hgm
            obtain ⟨q, hq⟩ : ∃ q : Nat, q = o'.length - d := ⟨_, rfl⟩
            have hqI : (o'.length : Int) - (d : Int) = (q : Int) := by omega
            have hql : q < o'.length := by omega
            have hqI2 : (q : Int) < (o'.length : Int) := by omega
            have hcell := ob_cell Ho.out q hql
            have Hcp2 : Hid (cpN d (N - (j + 1)) (o' ++ [o'.getD q 0]) = cpN d N out) := Lib.hid (by
              rw [← Hcp.out, show N - j = (N - (j + 1)) + 1 by omega, cpN_step, ← hq])
            have hgt : decide ((0 : Int) < (N : Int) - (j : Int)) = true := decide_eq_true (by omega)
            have hlen : o'.length + 1 ≤ 70368744177664 := by omega
            have Hlen := Lib.hid hlen
            clear hq hlen
            unfold bv at hcell
            generalize hbq : o'.getD q 0 = bq at *
            have Hbq := Lib.hid hbq; clear hbq
            go_wp2_with (at_builtin; refine wpList_app _ _ 1 rfl (.tmp 88) (.tmp 96) rfl w.heap.size _ _ Ho.out rfl [bq] ?c1 rfl rfl Hlen.out hsz2 ?_)
            case c1 => simp [bv]
            intro v' w1 hown' hbel'
            have Hon := Lib.hid hown'; have Hbn := Lib.hid (Hb.out.trans hbel')
            clear hown' hbel' hcell
            go_wp2
            go_roundw
            case rel => exact ⟨j + 1, o' ++ [bq], by omega, by go_num, Hon.out, Hbn.out, by rw [List.length_append, Hol3.out]; simp; omega, Hcp2.out⟩
            case measure => simp [intOf]; omega
          · have hjq : j = N := by omega
            have Hfin : Hid (o' = cpN d N out) := Lib.hid (by rw [← Hcp.out, hjq, Nat.sub_self]; rfl)
            have hgt : decide ((0 : Int) < (N : Int) - (j : Int)) = false := decide_eq_false (by omega)
            clear hjq
            have hi3 := Hi3.out
            go_wp2
            go_roundw
            case rel => exact ⟨i + 3, f', o', Hi3.out, by have := Hi3.out; go_num, Ho.out, Hb.out, ho1, by have := Hhf.out; have := Hi3.out; omega, by rw [Hfin.out]; exact HN.out⟩
            case measure => have := Hi3.out; simp [intOf]; omega
    · have Hf : Hid (A = .tuple #[.string ⟨out.toArray⟩, .bool true]) := Lib.hid (by
        rw [← HA.out, ← Hout.out, List.drop_eq_nil_of_le (by show s.size ≤ i; omega), ldL_nil]; rfl)
      have hc := conv_own Hown.out
      have hcmp : decide ((i : Int) < (s.size : Int)) = false := decide_eq_false (by omega)
      go_wp2_with fail
      go_ret2
      exact ⟨by rw [Hf.out]; rfl, Hbel.out⟩
end Go.Proofs.Ytmddgncidgdglaa
