/- The walk of the law FnIntegers. No statement is proved here. -/
import Derived.Test.YtjfkfnmbppmbpaaDrawNum2
import Derived.Test.YtjfkfnmbppmbpaaNumPlain
import Derived.ProofKit
import Derived.Deep.QuietTactic
import Derived.BigQuiet
import Derived.Below
namespace Go.Proofs.Ytjfkfnmbppmbpaa
open Go.RowKit
set_option linter.unusedVariables false
theorem toList_loop_len (bs : ByteArray) : ∀ (i : Nat) (r : List UInt8), r.length ≤ (ByteArray.toList.loop bs i r).length := by
  intro i r
  induction i, r using ByteArray.toList.loop.induct bs with
  | case1 i r h ih =>
    unfold ByteArray.toList.loop
    rw [if_pos h]
    simp only [List.length_cons] at ih
    omega
  | case2 i r h =>
    unfold ByteArray.toList.loop
    rw [if_neg h, List.length_reverse]
    exact Nat.le_refl _
theorem toList_ne (t : ByteArray) (h : t ≠ ⟨#[]⟩) : ¬ t.toList = [] := by
  intro e
  apply h
  by_cases hs : 0 < t.size
  · unfold ByteArray.toList ByteArray.toList.loop at e
    rw [if_pos hs] at e
    have := toList_loop_len t 1 [t.get! 0]
    rw [e] at this
    simp at this
  · exact ByteArray.ext (Array.eq_empty_of_size_eq_zero (by have : t.data.size = t.size := rfl; omega))
theorem seen_drewN {B : Nat} {a w : World} (h : Below B a w) (n : Nat) : Below B a (w.drewN n) := h.trans ⟨rfl, rfl, rfl, Nat.le_refl _, fun _ _ => rfl⟩
theorem below_seen {w u u' : World} (h : Below w.heap.size w u) (h' : Below u.heap.size u u') : Below w.heap.size w u' := h.trans (h'.mono h.size)
theorem rdS_bounds (s : ByteArray) (a m : Nat) (h1 : 1 ≤ (m : Int)) (h8 : (m : Int) ≤ 8) (h : a + m ≤ s.size) : -9223372036854775808 ≤ rdS s a m ∧ rdS s a m < 9223372036854775808 := by
  obtain ⟨b, hb, hbe, hc⟩ := cutL_last s a m (by omega) h
  have hl : (cutL s a (m - 1)).length = m - 1 := cutL_length s a (m - 1) (by omega)
  have hbd := leValC_bounds b (cutL s a (m - 1))
  rw [hl] at hbd
  rw [rdS_eq s a m b _ hc]
  generalize leValC (above b.toNat) (cutL s a (m - 1) ++ [b]) = v at *
  clear hc hl hbe
  rcases cases18 h1 h8 with rfl | rfl | rfl | rfl | rfl | rfl | rfl | rfl <;>
  · simp only [Nat.reduceSub, Int.reducePow] at hbd ⊢
    omega
set_option maxHeartbeats 1600000 in
theorem walk_int (w : World) (a0 : Option Addr) (len0 cap0 : Nat) (w0 : IsCode w a0 len0 cap0) (a1 : Option Addr) (len1 cap1 : Nat) (w1 : IsCode w a1 len1 cap1) :
    Calls Try.prog 3 #[.slice a0 len0 cap0, .slice a1 len1 cap1] w fun e w' => e = .returned (.bool true) ∧ Below w.heap.size w w' := by
  by_cases hn0 : len0 ≤ 1048576
  · by_cases hn1 : len1 ≤ 1048576
    · have H14 := Lib.hid (fun u => long_no a0 len0 cap0 hn0 u)
      have H15 := Lib.hid (fun u => long_no a1 len1 cap1 hn1 u)
      have H24 := Lib.hid (fun u (hb : Below w.heap.size w u) => drawPutUint_any a0 len0 cap0 hn0 u ((w0.below hb (Nat.le_refl _)).more hb.size))
      have H25 := Lib.hid (fun u (hb : Below w.heap.size w u) => drawPutInt_any a0 len0 cap0 hn0 u ((w0.below hb (Nat.le_refl _)).more hb.size))
      have H26 := Lib.hid (fun u (hb : Below w.heap.size w u) => drawGetInt_any a1 len1 cap1 hn1 u ((w1.below hb (Nat.le_refl _)).more hb.size))
      clear w0 w1 hn0 hn1
      go_enter Try.func3, Try.ntmps3
      go_wp2_with fail
      refine (H14.out _).mono ?_
      rintro e u1 ⟨rfl, rfl⟩
      go_wp2_with fail
      refine (H15.out _).mono ?_
      rintro e u1 ⟨rfl, rfl⟩
      go_wp2_with fail
      refine (H24.out _ (Below.refl _ _)).mono ?_
      rintro e u1 ⟨n, s, rfl, hn1, hn2, hs1, hs2, b1⟩
      have B1 := Lib.hid b1; clear b1 H14 H15 H24
      obtain ⟨x, ok, hf⟩ := getU_form (putU n s) 0 s
      have Hf := Lib.hid hf; clear hf
      have hp := getU_putU n s hn2
      have Hp := Lib.hid hp; clear hp
      have hsz := putU_size n s
      have Hsz := Lib.hid hsz; clear hsz
      go_wp2_with fail
      refine (implPutUint_any n s hn2 _).mono ?_
      rintro e u2 ⟨rfl, b2⟩
      have B2 := Lib.hid (B1.out.trans (b2.mono B1.out.size)); clear b2
      have Hsp := Lib.hid (specPutUint_any n s hn2)
      generalize putU n s = t at *
      go_wp2_with fail
      refine (implGetUint_any t 0 s ⟨by omega, by omega⟩ (by have := Hsz.out; omega) _).mono ?_
      rintro e u3 ⟨rfl, rfl⟩
      rw [Hf.out]
      rcases Hp.out with rfl | ⟨hne, hlen, hget⟩
      · clear Hp Hsz Hf
        go_wp2_with fail
        refine (Hsp.out _).mono ?_
        rintro e u4 ⟨rfl, b4⟩
        have B4 := Lib.hid (B2.out.trans (b4.mono B2.out.size)); clear b4 Hsp
        go_wp2_with fail
        refine (H25.out _ B4.out).mono ?_
        rintro e u5 ⟨m, wd, rfl, hm1, hm2, hw1, hw2, b5⟩
        have B5 := Lib.hid (B4.out.trans (b5.mono B4.out.size)); clear b5 H25
        have hg := putI_get m wd
        have hsz := putI_size m wd
        obtain ⟨y, fine, hf1, hf2, hR, _⟩ := getInt_both (putI m wd) 0 wd ⟨by omega, by omega⟩ (by omega)
        have Hg := Lib.hid hg; have HR := Lib.hid hR; have Hf1 := Lib.hid hf1; have Hf2 := Lib.hid hf2; clear hg hsz hR hf1 hf2
        go_wp2_with fail
        refine (implPutInt_any m wd hm1 hm2 _).mono ?_
        rintro e u6 ⟨rfl, b6⟩
        have B6 := Lib.hid (B5.out.trans (b6.mono B5.out.size)); clear b6
        have Hsp := Lib.hid (specPutInt_any m wd hm1 hm2)
        generalize putI m wd = t2 at *
        go_wp2_with fail
        refine (HR.out _).mono ?_
        rintro e u7 ⟨rfl, rfl⟩
        clear HR
        rcases Hg.out with rfl | ⟨hne2, hlen2, hin, hrd⟩
        · clear Hg Hf1 Hf2
          go_wp2_with fail
          refine (Hsp.out _).mono ?_
          rintro e u8 ⟨rfl, b8⟩
          have B8 := Lib.hid (B6.out.trans (b8.mono B6.out.size)); clear b8 Hsp
          go_wp2_with fail
          refine (H26.out _ B8.out).mono ?_
          rintro e u9 ⟨q, at', k, rfl, hq, ha1, ha2, hk1, hk2, b9⟩
          have B9 := Lib.hid (B8.out.trans (b9.mono B8.out.size)); clear b9 H26
          obtain ⟨z, is, hi1, hi2, hR, _⟩ := getInt_both q at' k ⟨by omega, by omega⟩ (by omega)
          have HR := Lib.hid hR; have Hi1 := Lib.hid hi1; clear hR hi1 hi2
          go_wp2_with fail
          refine (HR.out _).mono ?_
          rintro e u10 ⟨rfl, rfl⟩
          clear HR
          cases is
          · go_wp2_with fail
            go_quiet (fail)
            simp only [Exit.then]
            go_wp2_with fail
            go_ret
            exact ⟨rfl, seen_drewN B9.out _⟩
          · obtain ⟨⟨hk1', hk8, hat0, hatk⟩, hz⟩ := Hi1.out rfl
            clear Hi1
            obtain ⟨a, rfl⟩ := Int.eq_ofNat_of_zero_le hat0
            obtain ⟨m', rfl⟩ := Int.eq_ofNat_of_zero_le (by omega : 0 ≤ k)
            have hput := putI_rdS q a m' hk1' hk8 (by omega)
            have hzb : -9223372036854775808 ≤ z ∧ z < 9223372036854775808 := by rw [hz]; exact rdS_bounds q a m' hk1' hk8 (by omega)
            obtain ⟨hz1, hz2⟩ := hzb
            rw [show rdS q a m' = z from hz.symm] at hput
            clear hz
            have Hput := Lib.hid hput; clear hput
            have HP := Lib.hid (implPutInt_any z m' hz1 hz2)
            have hd1 : decide ((0 : Int) ≤ (a : Int)) = true := by simp
            have hd2 : decide ((a : Int) + (m' : Int) ≤ (q.size : Int)) = true := by simpa using hatk
            have hd3 : IntKind.i64.wrap ((a : Int) + (m' : Int)) = (a : Int) + (m' : Int) := by rw [IntKind.wrap_i64]; omega
            have hsl : ∀ wx, (Instr.slice 9 (.string q) (some (.int .i64 (a : Int))) (some (.int .i64 ((a : Int) + (m' : Int)))) none).run Try.prog wx = .ok (.string (q.extract a (a + m'))) wx := by
              intro wx
              have := run_slice_string (P := Try.prog) wx 9 q .i64 .i64 (a : Int) ((a : Int) + (m' : Int)) Try.underlying9 (by omega) (by omega) (by omega)
              rwa [show (a : Int).toNat = a from rfl, show ((a : Int) + (m' : Int)).toNat = a + m' from by omega] at this
            clear hn1 hn2 hs1 hs2 hm1 hm2 hw1 hw2 ha1 ha2 hk2
            go_wp2_with fail
            go_region_held3 (fun w' => True) (trivial)
              (first
                | ((with_reducible refine (HP.out _).mono ?_); rintro e u11 ⟨rfl, b11⟩))
            all_goals
              simp only [Exit.then]
              rw [Hput.out]
              simp only [beq_self_eq_true]
              go_wp2_with fail
              go_ret
              exact ⟨rfl, below_seen B9.out.drew b11⟩
        · have htl2 := toList_ne t2 hne2
          have hfine : fine = true := by
            cases fine
            · exact absurd hin (Hf2.out rfl)
            · rfl
          subst hfine
          have hy : y = m := (Hf1.out rfl).2.trans hrd
          subst hy
          clear Hg Hf1 Hf2 hin hrd hne2
          go_wp2_with fail
          refine (Hsp.out _).mono ?_
          rintro e u8 ⟨rfl, b8⟩
          have B8 := Lib.hid (B6.out.trans (b8.mono B6.out.size)); clear b8 Hsp
          go_wp2_with fail
          clear htl2 hlen2
          refine (H26.out _ B8.out).mono ?_
          rintro e u9 ⟨q, at', k, rfl, hq, ha1, ha2, hk1, hk2, b9⟩
          have B9 := Lib.hid (B8.out.trans (b9.mono B8.out.size)); clear b9 H26
          obtain ⟨z, is, hi1, hi2, hR, _⟩ := getInt_both q at' k ⟨by omega, by omega⟩ (by omega)
          have HR := Lib.hid hR; have Hi1 := Lib.hid hi1; clear hR hi1 hi2
          go_wp2_with fail
          refine (HR.out _).mono ?_
          rintro e u10 ⟨rfl, rfl⟩
          clear HR
          cases is
          · go_wp2_with fail
            go_quiet (fail)
            simp only [Exit.then]
            go_wp2_with fail
            go_ret
            exact ⟨rfl, seen_drewN B9.out _⟩
          · obtain ⟨⟨hk1', hk8, hat0, hatk⟩, hz⟩ := Hi1.out rfl
            clear Hi1
            obtain ⟨a, rfl⟩ := Int.eq_ofNat_of_zero_le hat0
            obtain ⟨m', rfl⟩ := Int.eq_ofNat_of_zero_le (by omega : 0 ≤ k)
            have hput := putI_rdS q a m' hk1' hk8 (by omega)
            have hzb : -9223372036854775808 ≤ z ∧ z < 9223372036854775808 := by rw [hz]; exact rdS_bounds q a m' hk1' hk8 (by omega)
            obtain ⟨hz1, hz2⟩ := hzb
            rw [show rdS q a m' = z from hz.symm] at hput
            clear hz
            have Hput := Lib.hid hput; clear hput
            have HP := Lib.hid (implPutInt_any z m' hz1 hz2)
            have hd1 : decide ((0 : Int) ≤ (a : Int)) = true := by simp
            have hd2 : decide ((a : Int) + (m' : Int) ≤ (q.size : Int)) = true := by simpa using hatk
            have hd3 : IntKind.i64.wrap ((a : Int) + (m' : Int)) = (a : Int) + (m' : Int) := by rw [IntKind.wrap_i64]; omega
            have hsl : ∀ wx, (Instr.slice 9 (.string q) (some (.int .i64 (a : Int))) (some (.int .i64 ((a : Int) + (m' : Int)))) none).run Try.prog wx = .ok (.string (q.extract a (a + m'))) wx := by
              intro wx
              have := run_slice_string (P := Try.prog) wx 9 q .i64 .i64 (a : Int) ((a : Int) + (m' : Int)) Try.underlying9 (by omega) (by omega) (by omega)
              rwa [show (a : Int).toNat = a from rfl, show ((a : Int) + (m' : Int)).toNat = a + m' from by omega] at this
            clear hn1 hn2 hs1 hs2 hm1 hm2 hw1 hw2 ha1 ha2 hk2
            go_wp2_with fail
            go_region_held3 (fun w' => True) (trivial)
              (first
                | ((with_reducible refine (HP.out _).mono ?_); rintro e u11 ⟨rfl, b11⟩))
            all_goals
              simp only [Exit.then]
              rw [Hput.out]
              simp only [beq_self_eq_true]
              go_wp2_with fail
              go_ret
              exact ⟨rfl, below_seen B9.out.drew b11⟩
      · have htl := toList_ne t hne
        obtain ⟨hx, hok⟩ : x = n ∧ ok = true := by
          have e := Hf.out
          rw [hget] at e
          injection e with e
          have e0 := congrArg (·[0]?) e
          have e1 := congrArg (·[1]?) e
          simp at e0 e1
          exact ⟨e0.symm, e1⟩
        subst hx; subst hok
        clear Hp Hf hget Hsz hne
        go_wp2_with fail
        refine (Hsp.out _).mono ?_
        rintro e u4 ⟨rfl, b4⟩
        have B4 := Lib.hid (B2.out.trans (b4.mono B2.out.size)); clear b4 Hsp
        go_wp2_with fail
        clear htl hlen
        refine (H25.out _ B4.out).mono ?_
        rintro e u5 ⟨m, wd, rfl, hm1, hm2, hw1, hw2, b5⟩
        have B5 := Lib.hid (B4.out.trans (b5.mono B4.out.size)); clear b5 H25
        have hg := putI_get m wd
        have hsz := putI_size m wd
        obtain ⟨y, fine, hf1, hf2, hR, _⟩ := getInt_both (putI m wd) 0 wd ⟨by omega, by omega⟩ (by omega)
        have Hg := Lib.hid hg; have HR := Lib.hid hR; have Hf1 := Lib.hid hf1; have Hf2 := Lib.hid hf2; clear hg hsz hR hf1 hf2
        go_wp2_with fail
        refine (implPutInt_any m wd hm1 hm2 _).mono ?_
        rintro e u6 ⟨rfl, b6⟩
        have B6 := Lib.hid (B5.out.trans (b6.mono B5.out.size)); clear b6
        have Hsp := Lib.hid (specPutInt_any m wd hm1 hm2)
        generalize putI m wd = t2 at *
        go_wp2_with fail
        refine (HR.out _).mono ?_
        rintro e u7 ⟨rfl, rfl⟩
        clear HR
        rcases Hg.out with rfl | ⟨hne2, hlen2, hin, hrd⟩
        · clear Hg Hf1 Hf2
          go_wp2_with fail
          refine (Hsp.out _).mono ?_
          rintro e u8 ⟨rfl, b8⟩
          have B8 := Lib.hid (B6.out.trans (b8.mono B6.out.size)); clear b8 Hsp
          go_wp2_with fail
          refine (H26.out _ B8.out).mono ?_
          rintro e u9 ⟨q, at', k, rfl, hq, ha1, ha2, hk1, hk2, b9⟩
          have B9 := Lib.hid (B8.out.trans (b9.mono B8.out.size)); clear b9 H26
          obtain ⟨z, is, hi1, hi2, hR, _⟩ := getInt_both q at' k ⟨by omega, by omega⟩ (by omega)
          have HR := Lib.hid hR; have Hi1 := Lib.hid hi1; clear hR hi1 hi2
          go_wp2_with fail
          refine (HR.out _).mono ?_
          rintro e u10 ⟨rfl, rfl⟩
          clear HR
          cases is
          · go_wp2_with fail
            go_quiet (fail)
            simp only [Exit.then]
            go_wp2_with fail
            go_ret
            exact ⟨rfl, seen_drewN B9.out _⟩
          · obtain ⟨⟨hk1', hk8, hat0, hatk⟩, hz⟩ := Hi1.out rfl
            clear Hi1
            obtain ⟨a, rfl⟩ := Int.eq_ofNat_of_zero_le hat0
            obtain ⟨m', rfl⟩ := Int.eq_ofNat_of_zero_le (by omega : 0 ≤ k)
            have hput := putI_rdS q a m' hk1' hk8 (by omega)
            have hzb : -9223372036854775808 ≤ z ∧ z < 9223372036854775808 := by rw [hz]; exact rdS_bounds q a m' hk1' hk8 (by omega)
            obtain ⟨hz1, hz2⟩ := hzb
            rw [show rdS q a m' = z from hz.symm] at hput
            clear hz
            have Hput := Lib.hid hput; clear hput
            have HP := Lib.hid (implPutInt_any z m' hz1 hz2)
            have hd1 : decide ((0 : Int) ≤ (a : Int)) = true := by simp
            have hd2 : decide ((a : Int) + (m' : Int) ≤ (q.size : Int)) = true := by simpa using hatk
            have hd3 : IntKind.i64.wrap ((a : Int) + (m' : Int)) = (a : Int) + (m' : Int) := by rw [IntKind.wrap_i64]; omega
            have hsl : ∀ wx, (Instr.slice 9 (.string q) (some (.int .i64 (a : Int))) (some (.int .i64 ((a : Int) + (m' : Int)))) none).run Try.prog wx = .ok (.string (q.extract a (a + m'))) wx := by
              intro wx
              have := run_slice_string (P := Try.prog) wx 9 q .i64 .i64 (a : Int) ((a : Int) + (m' : Int)) Try.underlying9 (by omega) (by omega) (by omega)
              rwa [show (a : Int).toNat = a from rfl, show ((a : Int) + (m' : Int)).toNat = a + m' from by omega] at this
            clear hn1 hn2 hs1 hs2 hm1 hm2 hw1 hw2 ha1 ha2 hk2
            go_wp2_with fail
            go_region_held3 (fun w' => True) (trivial)
              (first
                | ((with_reducible refine (HP.out _).mono ?_); rintro e u11 ⟨rfl, b11⟩))
            all_goals
              simp only [Exit.then]
              rw [Hput.out]
              simp only [beq_self_eq_true]
              go_wp2_with fail
              go_ret
              exact ⟨rfl, below_seen B9.out.drew b11⟩
        · have htl2 := toList_ne t2 hne2
          have hfine : fine = true := by
            cases fine
            · exact absurd hin (Hf2.out rfl)
            · rfl
          subst hfine
          have hy : y = m := (Hf1.out rfl).2.trans hrd
          subst hy
          clear Hg Hf1 Hf2 hin hrd hne2
          go_wp2_with fail
          refine (Hsp.out _).mono ?_
          rintro e u8 ⟨rfl, b8⟩
          have B8 := Lib.hid (B6.out.trans (b8.mono B6.out.size)); clear b8 Hsp
          go_wp2_with fail
          clear htl2 hlen2
          refine (H26.out _ B8.out).mono ?_
          rintro e u9 ⟨q, at', k, rfl, hq, ha1, ha2, hk1, hk2, b9⟩
          have B9 := Lib.hid (B8.out.trans (b9.mono B8.out.size)); clear b9 H26
          obtain ⟨z, is, hi1, hi2, hR, _⟩ := getInt_both q at' k ⟨by omega, by omega⟩ (by omega)
          have HR := Lib.hid hR; have Hi1 := Lib.hid hi1; clear hR hi1 hi2
          go_wp2_with fail
          refine (HR.out _).mono ?_
          rintro e u10 ⟨rfl, rfl⟩
          clear HR
          cases is
          · go_wp2_with fail
            go_quiet (fail)
            simp only [Exit.then]
            go_wp2_with fail
            go_ret
            exact ⟨rfl, seen_drewN B9.out _⟩
          · obtain ⟨⟨hk1', hk8, hat0, hatk⟩, hz⟩ := Hi1.out rfl
            clear Hi1
            obtain ⟨a, rfl⟩ := Int.eq_ofNat_of_zero_le hat0
            obtain ⟨m', rfl⟩ := Int.eq_ofNat_of_zero_le (by omega : 0 ≤ k)
            have hput := putI_rdS q a m' hk1' hk8 (by omega)
            have hzb : -9223372036854775808 ≤ z ∧ z < 9223372036854775808 := by rw [hz]; exact rdS_bounds q a m' hk1' hk8 (by omega)
            obtain ⟨hz1, hz2⟩ := hzb
            rw [show rdS q a m' = z from hz.symm] at hput
            clear hz
            have Hput := Lib.hid hput; clear hput
            have HP := Lib.hid (implPutInt_any z m' hz1 hz2)
            have hd1 : decide ((0 : Int) ≤ (a : Int)) = true := by simp
            have hd2 : decide ((a : Int) + (m' : Int) ≤ (q.size : Int)) = true := by simpa using hatk
            have hd3 : IntKind.i64.wrap ((a : Int) + (m' : Int)) = (a : Int) + (m' : Int) := by rw [IntKind.wrap_i64]; omega
            have hsl : ∀ wx, (Instr.slice 9 (.string q) (some (.int .i64 (a : Int))) (some (.int .i64 ((a : Int) + (m' : Int)))) none).run Try.prog wx = .ok (.string (q.extract a (a + m'))) wx := by
              intro wx
              have := run_slice_string (P := Try.prog) wx 9 q .i64 .i64 (a : Int) ((a : Int) + (m' : Int)) Try.underlying9 (by omega) (by omega) (by omega)
              rwa [show (a : Int).toNat = a from rfl, show ((a : Int) + (m' : Int)).toNat = a + m' from by omega] at this
            clear hn1 hn2 hs1 hs2 hm1 hm2 hw1 hw2 ha1 ha2 hk2
            go_wp2_with fail
            go_region_held3 (fun w' => True) (trivial)
              (first
                | ((with_reducible refine (HP.out _).mono ?_); rintro e u11 ⟨rfl, b11⟩))
            all_goals
              simp only [Exit.then]
              rw [Hput.out]
              simp only [beq_self_eq_true]
              go_wp2_with fail
              go_ret
              exact ⟨rfl, below_seen B9.out.drew b11⟩
    · have H14 := Lib.hid (fun u => long_no a0 len0 cap0 hn0 u)
      have H15 := Lib.hid (fun u => long_yes a1 len1 cap1 hn1 u)
      go_enter Try.func3, Try.ntmps3
      go_wp2_with fail
      refine (H14.out _).mono ?_
      rintro e u1 ⟨rfl, rfl⟩
      go_wp2_with fail
      refine (H15.out _).mono ?_
      rintro e u1 ⟨rfl, rfl⟩
      go_wp2_with fail
      go_ret
      exact ⟨rfl, Below.refl _ _⟩
  · have H14 := Lib.hid (fun u => long_yes a0 len0 cap0 hn0 u)
    go_enter Try.func3, Try.ntmps3
    go_wp2_with fail
    refine (H14.out _).mono ?_
    rintro e u1 ⟨rfl, rfl⟩
    go_wp2_with fail
    go_ret
    exact ⟨rfl, Below.refl _ _⟩
end Go.Proofs.Ytjfkfnmbppmbpaa
