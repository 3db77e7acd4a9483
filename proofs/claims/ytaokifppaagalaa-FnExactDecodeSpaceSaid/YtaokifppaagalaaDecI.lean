/- Contract of the program's function that reads a dataspace's bytes. No statement is proved here. -/
import Derived.Test.YtaokifppaagalaaDec
import Derived.Test.YtaokifppaagalaaEncI
import Derived.Test.YtaokifppaagalaaGetU
import Derived.Test.YtaokifppaagalaaGetI
namespace Go.Proofs.Ytaokifppaagalaa
open Go.RowKit
set_option linter.unusedVariables false
theorem cut_one (s : ByteArray) (a : Nat) (h : a + 1 ≤ s.size) : cutL s a 1 = [s[a]'(by omega)] := by
  have h1 := cutL_drop s a 1 0 h (by omega)
  have h2 := cutL_length s a 1 h
  rw [List.drop_zero] at h1
  rw [h1, List.length_cons] at h2
  rw [h1]
  have : (cutL s a 1).drop (0 + 1) = [] := List.eq_nil_of_length_eq_zero (by omega)
  rw [this]; simp
theorem rd1 (b : UInt8) : leValC (above ((([b] : List UInt8).getLast?.getD 0).toNat)) [b] = mI b.toNat := by
  rcases Nat.lt_or_ge b.toNat 128 with hb | hb
  · have e : above (((([b] : List UInt8).getLast?.getD 0).toNat : Nat) : Int) = 0 := if_neg (show ¬ 127 < (b.toNat : Int) by omega)
    rw [e, show mI b.toNat = (b.toNat : Int) from if_pos hb]; simp [leValC]
  · have e : above (((([b] : List UInt8).getLast?.getD 0).toNat : Nat) : Int) = -1 := if_pos (show 127 < (b.toNat : Int) by omega)
    rw [e, show mI b.toNat = (b.toNat : Int) - 256 from if_neg (by omega)]; simp [leValC]; omega
theorem gU (s : ByteArray) (k : Nat) (h : 2 + 2 * k < s.size) (hs : s.size ≤ 1048576) (w : World) :
    Calls Try.prog 62 #[.string s, .int .i64 (1 + 2 * (k : Int)), .int .i64 1] w fun e w' => e = .returned (.tuple #[.int .i64 ((bN s (1 + 2 * k) : Nat) : Int), .bool true]) ∧ w = w' := by
  have hc := implGetUint_yes s (1 + 2 * k) 1 (by omega) (by omega) (by omega) hs w
  have e1 : leVal (cutL s (1 + 2 * k) 1) = ((bN s (1 + 2 * k) : Nat) : Int) := by rw [cut_one s _ (by omega), bN_at s _ (by omega)]; simp [leVal]
  have hb := bN_lt s (1 + 2 * k)
  rw [e1, uOk_yes (by omega)] at hc
  have e2 : (((1 + 2 * k : Nat) : Int)) = 1 + 2 * (k : Int) := by omega
  rw [e2] at hc
  exact hc
theorem gI (s : ByteArray) (k : Nat) (h : 2 + 2 * k < s.size) (hs : s.size ≤ 1048576) (w : World) :
    Calls Try.prog 63 #[.string s, .int .i64 (1 + 2 * (k : Int) + 1), .int .i64 1] w fun e w' => e = .returned (.tuple #[.int .i64 (mI (bN s (2 + 2 * k))), .bool true]) ∧ w = w' := by
  have hc := implGetInt_yes s (2 + 2 * k) 1 (by omega) (by omega) (by omega) hs w
  have e1 : rdS s (2 + 2 * k) 1 = mI (bN s (2 + 2 * k)) := by
    unfold rdS
    rw [cut_one s _ (by omega), bN_at s _ (by omega)]
    exact rd1 _
  rw [e1] at hc
  have e2 : (((2 + 2 * k : Nat) : Int)) = 1 + 2 * (k : Int) + 1 := by omega
  rw [e2] at hc
  exact hc
theorem decOk_even {s : ByteArray} (h : ¬ s.size % 2 = 1) : decOk s = false := by simp [decOk, h]
set_option maxHeartbeats 4000000 in
set_option maxRecDepth 100000 in
theorem implDec_any (s : ByteArray) (w : World) (hs : s.size ≤ 1048576) :
    Calls Try.prog 16 #[.string s] w (AnsAt (ansD s) (ansM s) (.bool (decOk s)) w) := by
  generalize hr : decOk s = r
  have HL : Hid (ansD s = if r then decD s (decK s) else []) := Lib.hid (by unfold ansD; rw [hr])
  have HM : Hid (ansM s = if r then decI s (decK s) else []) := Lib.hid (by unfold ansM; rw [hr])
  generalize ansD s = Lo at *
  generalize ansM s = Hi at *
  have Hr := Lib.hid hr; clear hr
  have Hi9 : Hid ((Try.prog.info? 24).map (·.size) = some (#[.slice none 0 0, .slice none 0 0] : Array Value).size) := Lib.hid (by kernel_rfl)
  have H19 : Hid ((#[.slice none 0 0, .slice none 0 0] : Array Value).all (·.oneCell') = true) := Lib.hid (by simp [Value.oneCell'])
  by_cases hodd : s.size % 2 = 1
  rotate_left
  · have Hf : Hid (r = false) := Lib.hid (by rw [← Hr.out]; exact decOk_even hodd)
    have m1 : Int.tmod (s.size : Int) 2 = 0 := by rw [Int.tmod_eq_emod_of_nonneg (by omega)]; omega
    have HB0 : Hid (Below w.heap.size w (w.alloc (.cells #[.slice none 0 0, .slice none 0 0] 24))) := Lib.hid ((Below.refl _ w).alloc (Nat.le_refl _) _)
    have Hr0 : Hid ((w.alloc (.cells #[.slice none 0 0, .slice none 0 0] 24)).heap[w.heap.size]? = some (.cells #[.slice none 0 0, .slice none 0 0] 24 (0, 0))) := Lib.hid (heap_alloc_new w _)
    go_enter Try.func16, Try.ntmps16
    go_wp2_with (refine wpList_store_row rfl 24 (.tmp 2) (.tmp 14) rfl w.heap.size #[.slice none 0 0, .slice none 0 0] rfl rfl 24 _ Hr0.out Hi9.out rfl H19.out ?_)
    refine bodyPost_ret (v := .tuple #[.agg #[.slice none 0 0, .slice none 0 0], .bool false]) ?_ ?_ ?_
    · exact results_cell_row2 rfl _ _ w.heap.size 24 _ (0, 0) _ _ rfl rfl (setRow_heap _ _ _ _ _ _ Hr0.out) Try.underlying24 rfl (by kernel_rfl)
    · rfl
    · rw [HL.out, HM.out, Hf.out]; exact ans_nil _ (below_setRow HB0.out (by omega) _)
  have HB0 : Hid (Below w.heap.size w ((w.alloc (.cells #[.slice none 0 0, .slice none 0 0] 24)).alloc (.cells #[.slice none 0 0, .slice none 0 0] 24))) := Lib.hid (((Below.refl _ w).alloc (Nat.le_refl _) _).alloc (by simp) _)
  have Hr0 : Hid (((w.alloc (.cells #[.slice none 0 0, .slice none 0 0] 24)).alloc (.cells #[.slice none 0 0, .slice none 0 0] 24)).heap[w.heap.size]? = some (.cells #[.slice none 0 0, .slice none 0 0] 24 (0, 0))) := Lib.hid (heap_alloc2_old w _ _)
  have HA0 : Hid (Acc ((w.alloc (.cells #[.slice none 0 0, .slice none 0 0] 24)).alloc (.cells #[.slice none 0 0, .slice none 0 0] 24)) (w.heap.size + 1) 24 (.slice none 0 0) (.slice none 0 0) (decD s 0) (decI s 0)) := Lib.hid (by
    have h := Acc.start (w.alloc (.cells #[.slice none 0 0, .slice none 0 0] 24)) 24
    rw [show (w.alloc (.cells #[.slice none 0 0, .slice none 0 0] 24)).heap.size = w.heap.size + 1 by simp] at h
    exact h)
  have HB1 : Hid (Below (w.heap.size + 1) ((w.alloc (.cells #[.slice none 0 0, .slice none 0 0] 24)).alloc (.cells #[.slice none 0 0, .slice none 0 0] 24)) ((w.alloc (.cells #[.slice none 0 0, .slice none 0 0] 24)).alloc (.cells #[.slice none 0 0, .slice none 0 0] 24))) := Lib.hid (Below.refl _ _)
  have m1 : Int.tmod (s.size : Int) 2 = 1 := by rw [Int.tmod_eq_emod_of_nonneg (by omega)]; omega
  go_enter Try.func16, Try.ntmps16
  go_wp2_with fail
  clear m1
  generalize ((w.alloc (.cells #[.slice none 0 0, .slice none 0 0] 24)).alloc (.cells #[.slice none 0 0, .slice none 0 0] 24)) = W0 at *
  go_loopw [5] (fun i wr => ∃ (k : Nat) (u1 u2 : Value), k ≤ decK s ∧ i = .int .i64 (1 + 2 * (k : Int)) ∧ Acc wr (w.heap.size + 1) 24 u1 u2 (decD s k) (decI s k) ∧ Below (w.heap.size + 1) W0 wr) (fun i _ => s.size + 1 - (intOf i).toNat)
  case atStart => exact ⟨0, _, _, Nat.zero_le _, rfl, HA0.out, HB1.out⟩
  case round =>
    obtain ⟨k, u1, u2, hk, rfl, hacc, hbel⟩ := hrel
    have Hbel := Lib.hid hbel; have Hacc := Lib.hid hacc
    have Hlk := Lib.hid (decD_len s k); have Hlm := Lib.hid (decI_len s k)
    have HsD := Lib.hid (decD_step s k); have HsM := Lib.hid (decI_step s k)
    have q5 := hacc.c0
    have q6 := hacc.c1
    have Hsz : Hid (w.heap.size + 1 < wr.heap.size) := Lib.hid hacc.lt
    have Hle : Hid (k ≤ 1048576) := Lib.hid (by unfold decK at hk; omega)
    have HrW : Hid (wr.heap[w.heap.size]? = some (.cells #[.slice none 0 0, .slice none 0 0] 24 (0, 0))) := Lib.hid ((hbel.block _ (by omega)).trans Hr0.out)
    have HBW : Hid (Below w.heap.size w wr) := Lib.hid (HB0.out.trans (hbel.mono (by omega)))
    have hkk : (k : Int) ≤ 1048576 := by have := Hle.out; omega
    have hw1 : IntKind.i64.wrap (1 + 2 * (k : Int) + 1) = 1 + 2 * (k : Int) + 1 := IntWalk.i64_in _ (by omega)
    have hw2 : IntKind.i64.wrap (1 + 2 * (k : Int) + 2) = 1 + 2 * (k : Int) + 2 := IntWalk.i64_in _ (by omega)
    by_cases hlt : 1 + 2 * k < s.size
    · have q1 : decide (1 + 2 * (k : Int) < (s.size : Int)) = true := decide_eq_true (by omega)
      have hkK : k < decK s := by unfold decK; omega
      have hGU := Lib.hid (gU s k (by omega) hs); have hGI := Lib.hid (gI s k (by omega) hs)
      clear hacc hbel
      generalize ((bN s (1 + 2 * k) : Nat) : Int) = bd at *
      generalize mI (bN s (2 + 2 * k)) = bm at *
      go_wp2_with fail
      refine (hGU.out _).mono ?_
      rintro e W2 ⟨rfl, rfl⟩
      go_wp2_with fail
      refine (hGI.out _).mono ?_
      rintro e W2 ⟨rfl, rfl⟩
      go_wp2_with (first | (at_builtin; refine wpList_push (W := wr) (v := u1) (lo := w.heap.size + 1 + 1) (xs := decD s k) rfl (.tmp 36) (.tmp 38) rfl rfl rfl rfl Hacc.out.2.1 Hsz.out (by have := Hlk.out; have := Hle.out; omega) ?_; intro h1 cap1 w1 ow1 gr1 at1 lt1; clear q5 q6; obtain ⟨m1, m2⟩ := Hacc.out.mid0 gr1; have HP1 := Lib.hid (Hacc.out.push0 ow1 gr1 at1); have m3 := HP1.out.1.c1; have HZ1 := Lib.hid HP1.out.1.lt; clear ow1 gr1 at1) | (at_builtin; refine wpList_push (v := u2) (lo := w.heap.size + 1 + 1) (xs := decI s k) rfl (.tmp 42) (.tmp 44) rfl rfl rfl (by first | rfl | simp [World.setCell]) HP1.out.1.2.2.1 HZ1.out (by have := Hlm.out; have := Hle.out; omega) ?_; intro h2 cap2 w2 ow2 gr2 at2 lt2; clear m1 m2 m3; obtain ⟨m4, m5⟩ := HP1.out.1.mid1 gr2; have HP2 := Lib.hid (HP1.out.1.push1 ow2 gr2 at2); clear ow2 gr2 at2))
      go_roundw
      case rel => exact ⟨k + 1, _, _, by omega, by go_num, HsD.out ▸ HsM.out ▸ HP2.out.1, Hbel.out.trans (HP1.out.2.trans HP2.out.2)⟩
      case measure => simp [intOf]; omega
    · have q1 : decide (1 + 2 * (k : Int) < (s.size : Int)) = false := decide_eq_false (by omega)
      have q2 : ¬ (1 + 2 * (k : Int) < (s.size : Int)) := by omega
      obtain rfl : k = decK s := by unfold decK at *; omega
      obtain ⟨E1, e1, hu1⟩ := hacc.2.1.sl
      obtain ⟨E2, e2, hu2⟩ := hacc.2.2.1.sl
      have H29 : Hid ((#[u1, u2] : Array Value).all (·.oneCell') = true) := Lib.hid (by rw [hu1, hu2]; simp [Value.oneCell'])
      have HR1 : Hid (Ri wr.heap.size wr u1 (decD s (decK s))) := Lib.hid (hacc.2.1.ri (decD_in s _))
      have HR2 : Hid (Ri wr.heap.size wr u2 (decI s (decK s))) := Lib.hid (hacc.2.2.1.ri (decI_in s _))
      have Hdo : Hid (decOk s = decide (encS (decD s (decK s)) (decI s (decK s)) = s)) := Lib.hid (by unfold decOk; simp [hodd])
      clear hacc hbel hu1 hu2
      go_wp2_with fail
      refine (implEncodeSpace_any HR1.out HR2.out (Nat.le_refl _)).mono ?_
      rintro e W5 ⟨rfl, g⟩
      have HT5 := Lib.hid (Hacc.out.keep g)
      have HrW5 : Hid (W5.heap[w.heap.size]? = some (.cells #[.slice none 0 0, .slice none 0 0] 24 (0, 0))) := Lib.hid ((g.block _ (by have := Hsz.out; omega)).trans HrW.out)
      have HBW5 : Hid (Below w.heap.size w W5) := Lib.hid (HBW.out.trans (g.mono HBW.out.size))
      clear g q5 q6
      generalize encS (decD s (decK s)) (decI s (decK s)) = t at *
      by_cases hts : t = s
      · have Hf : Hid (r = true) := Lib.hid (by rw [← Hr.out, Hdo.out]; simpa using hts)
        subst hts
        go_wp2_with (first | (refine wpList_load_row rfl 24 (.tmp 4) rfl _ rfl 24 _ (0, 0) _ HT5.out.1 Try.underlying24 rfl (by kernel_rfl) ?_) | (refine wpList_store_row rfl 24 (.tmp 2) (.tmp 52) rfl w.heap.size #[u1, u2] rfl rfl 24 _ HrW5.out (by kernel_rfl) rfl H29.out ?_))
        refine bodyPost_ret (v := .tuple #[.agg #[u1, u2], .bool true]) ?_ ?_ ?_
        · exact results_cell_row2 rfl _ _ w.heap.size 24 _ (0, 0) _ _ rfl rfl (setRow_heap _ _ _ _ _ _ HrW5.out) Try.underlying24 rfl (by kernel_rfl)
        · rfl
        · rw [HL.out, HM.out, Hf.out, if_pos rfl, if_pos rfl]
          exact HT5.out.ans (Below.refl _ _) (Nat.le_refl _) (by omega) HBW5.out
      · have Hf : Hid (r = false) := Lib.hid (by rw [← Hr.out, Hdo.out]; simpa using hts)
        have htl := toList_ne2 hts
        have htl2 : (t.toList == s.toList) = false := by simpa using htl
        go_wp2_with (refine wpList_store_row rfl 24 (.tmp 2) (.tmp 51) rfl w.heap.size #[.slice none 0 0, .slice none 0 0] rfl rfl 24 _ HrW5.out Hi9.out rfl H19.out ?_)
        refine bodyPost_ret (v := .tuple #[.agg #[.slice none 0 0, .slice none 0 0], .bool false]) ?_ ?_ ?_
        · exact results_cell_row2 rfl _ _ w.heap.size 24 _ (0, 0) _ _ rfl rfl (setRow_heap _ _ _ _ _ _ HrW5.out) Try.underlying24 rfl (by kernel_rfl)
        · rfl
        · rw [HL.out, HM.out, Hf.out]; exact ans_nil _ (below_setRow HBW5.out (by omega) _)
end Go.Proofs.Ytaokifppaagalaa
