/- Keys that rise, keys of a node, entries that are not valid: contracts, both sides. No statement is proved here. -/
import Derived.Test.YtabnglimchjgpaaChV
import Derived.Test.YtabnglimchjgpaaAcc
namespace Go.Proofs.Ytabnglimchjgpaa
open Go.RowKit
set_option linter.unusedVariables false
set_option maxHeartbeats 1000000 in
set_option maxRecDepth 100000 in
theorem l00Rises_any {B : Nat} {w : World} {v : Value} {xs : List Int} (h : Ri B w v xs) (hB : B ≤ w.heap.size) :
    Calls Try.prog 107 #[v, .int .i64 0, .int .i64 65535] w (GivesB (.bool (rises xs)) w) := by
  obtain ⟨A1, c1, rfl, hl1, hm1, hx1⟩ := h
  have Hx1 := Lib.hid hx1; clear hx1
  unfold maxLen at hm1
  go_enter Try.func107, Try.ntmps107
  go_wp2
  go_loopw [7] (fun i wr => ∃ k : Nat, k ≤ xs.length ∧ i = .int .i64 k ∧ Below w.heap.size w wr ∧ allTo (rz xs) k = true) (fun i _ => xs.length - (intOf i).toNat)
  case atStart => exact ⟨0, Nat.zero_le _, rfl, Below.refl _ _, allTo_zero _⟩
  case round =>
    obtain ⟨k, hk, rfl, hbel, hall⟩ := hrel
    have Hall := Lib.hid hall; have Hbel := Lib.hid hbel
    clear hall
    by_cases hlt : k < xs.length
    · obtain ⟨b1, o1, rfl, hb1, hq1, hI1⟩ := Hx1.out k hlt
      have g1 : wr.cell? ⟨b1, o1 + k, none⟩ = some (.int .i64 xs[k]) := by rw [hbel.cell (p := ⟨b1, o1 + k, none⟩) (show b1 < _ from by omega)]; exact hq1
      have Hk2 := Lib.hid (allTo_succ (rz xs) k)
      have Hbad : Hid (rz xs k = false → rises xs = false) := Lib.hid (fun h => allTo_bad _ k _ hlt h)
      rcases k with _ | j
      · have Hp := Lib.hid (rz_zero hlt)
        clear hq1 hI1 hbel
        simp only [Nat.add_zero] at g1
        generalize hxk : xs[0] = x at *
        clear hxk
        cases hm : inB x 0 65535
        · have Hm := Lib.hid hm
          have Hf := Lib.hid (Hbad.out (by rw [Hp.out, hm]))
          clear hm Hbad
          go_wp2
          go_quiet ((go_at_call 63; exact Quiet.qs (l00In_no _ _ _ _ Hm.out)))
          go_wp2
          go_ret
          exact ⟨by rw [Hf.out]; rfl, below_draws Hbel.out _⟩
        · have Hm := Lib.hid hm
          have Hall2 : Hid (allTo (rz xs) (0 + 1) = true) := Lib.hid (by rw [Hk2.out, Hall.out, Hp.out, hm]; rfl)
          clear hm Hbad
          go_wp2
          go_quiet ((go_at_call 63; exact Quiet.qs (l00In_yes _ _ _ _ Hm.out)))
          go_wp2
          go_roundw
          case rel => exact ⟨0 + 1, by omega, by go_num, below_draws Hbel.out _, Hall2.out⟩
          case measure => simp [intOf]; omega
      · obtain ⟨b2, o2, e2, hb2, hq2, hI2⟩ := Hx1.out j (by omega)
        cases e2
        have g2 : wr.cell? ⟨b1, o1 + j, none⟩ = some (.int .i64 xs[j]) := by rw [hbel.cell (p := ⟨b1, o1 + j, none⟩) (show b1 < _ from by omega)]; exact hq2
        have Hp := Lib.hid (rz_succ hlt)
        clear hq1 hI1 hq2 hI2 hbel
        generalize hxk : xs[j + 1] = x at *
        generalize hyk : xs[j] = y at *
        clear hxk hyk
        have n0 : decide ((0 : Int) < ((j + 1 : Nat) : Int)) = true := decide_eq_true (by omega)
        have n1 : ((j + 1 : Nat) : Int) - 1 = (j : Int) := by omega
        have n2 : IntKind.i64.wrap (j : Int) = (j : Int) := IntWalk.i64_in _ (by omega)
        have n3 : (j : Int) < (xs.length : Int) := by omega
        cases hm : inB x 0 65535
        · have Hm := Lib.hid hm
          have Hf := Lib.hid (Hbad.out (by rw [Hp.out, hm]; rfl))
          clear hm Hbad
          go_wp2
          go_quiet ((go_at_call 63; exact Quiet.qs (l00In_no _ _ _ _ Hm.out)))
          go_wp2
          go_ret
          exact ⟨by rw [Hf.out]; rfl, below_draws Hbel.out _⟩
        · have Hm := Lib.hid hm
          cases hd : decide (y < x)
          · have Hf := Lib.hid (Hbad.out (by rw [Hp.out, hm, hd]; rfl))
            have n4 : decide (x ≤ y) = true := decide_eq_true (by have := of_decide_eq_false hd; omega)
            clear hm hd Hbad
            go_wp2
            go_quiet ((go_at_call 63; exact Quiet.qs (l00In_yes _ _ _ _ Hm.out)))
            go_wp2
            go_ret
            exact ⟨by rw [Hf.out]; rfl, below_draws Hbel.out _⟩
          · have Hall2 : Hid (allTo (rz xs) (j + 1 + 1) = true) := Lib.hid (by rw [Hk2.out, Hall.out, Hp.out, hm, hd]; rfl)
            have n4 : decide (x ≤ y) = false := decide_eq_false (by have := of_decide_eq_true hd; omega)
            clear hm hd Hbad
            go_wp2
            go_quiet ((go_at_call 63; exact Quiet.qs (l00In_yes _ _ _ _ Hm.out)))
            go_wp2
            go_roundw
            case rel => exact ⟨j + 1 + 1, by omega, by go_num, below_draws Hbel.out _, Hall2.out⟩
            case measure => simp [intOf]; omega
    · obtain rfl : k = xs.length := by omega
      clear hbel
      go_wp2
      go_ret
      exact ⟨by rw [show rises xs = true from Hall.out]; rfl, Hbel.out⟩
/-- The lowest key that may come next. -/
def lowK (xs : List Int) (k : Nat) : Int := if k = 0 then 0 else xs.getD (k - 1) 0 + 1
theorem lowK_bd {xs : List Int} {k : Nat} (hk : k ≤ xs.length) (h : allTo (rz xs) k = true) : 0 ≤ lowK xs k ∧ lowK xs k ≤ 65536 := by
  unfold lowK
  rcases k with _ | j
  · simp
  · have := allTo_at h (Nat.lt_succ_self j)
    unfold rz at this
    rw [Bool.and_eq_true, inB_iff] at this
    simp only [Nat.add_sub_cancel, Nat.succ_ne_zero, if_false]
    omega
theorem lowK_next {xs : List Int} {k : Nat} (hk : k < xs.length) : lowK xs (k + 1) = xs[k] + 1 := by unfold lowK; simp only [Nat.add_sub_cancel, Nat.succ_ne_zero, if_false]; rw [getD_in hk]
theorem rz_low {xs : List Int} {k : Nat} (hk : k < xs.length) (h : allTo (rz xs) k = true) : rz xs k = !(decide (xs[k] < lowK xs k) || decide (65536 ≤ xs[k])) := by
  have hb := lowK_bd (Nat.le_of_lt hk) h
  rcases k with _ | j
  · rw [rz_zero hk]
    unfold lowK inB
    rw [Bool.eq_iff_iff]; simp; omega
  · rw [rz_succ hk, lowK_next (by omega)]
    rw [lowK_next (by omega)] at hb
    unfold inB
    rw [Bool.eq_iff_iff]; simp; omega
set_option maxHeartbeats 1000000 in
set_option maxRecDepth 100000 in
theorem areKeys_any {B : Nat} {w : World} {v : Value} {xs : List Int} (h : Ri B w v xs) (hB : B ≤ w.heap.size) :
    Calls Try.prog 80 #[v, .int .i64 0, .int .i64 65536] w (GivesB (.bool (rises xs)) w) := by
  obtain ⟨A1, c1, rfl, hl1, hm1, hx1⟩ := h
  have Hx1 := Lib.hid hx1; clear hx1
  unfold maxLen at hm1
  go_enter Try.func80, Try.ntmps80
  go_wp2
  go_loopw [1, 11] (fun l i wr => ∃ k : Nat, k ≤ xs.length ∧ l = .int .i64 (lowK xs k) ∧ i = .int .i64 k ∧ Below w.heap.size w wr ∧ allTo (rz xs) k = true) (fun _ i _ => xs.length - (intOf i).toNat)
  case atStart => exact ⟨0, Nat.zero_le _, rfl, rfl, Below.refl _ _, allTo_zero _⟩
  case round =>
    obtain ⟨k, hk, rfl, rfl, hbel, hall⟩ := hrel
    have Hbd := Lib.hid (lowK_bd hk hall)
    have Hall := Lib.hid hall; have Hbel := Lib.hid hbel
    by_cases hlt : k < xs.length
    · obtain ⟨b1, o1, rfl, hb1, hq1, hI1⟩ := Hx1.out k hlt
      have g1 : wr.cell? ⟨b1, o1 + k, none⟩ = some (.int .i64 xs[k]) := by rw [hbel.cell (p := ⟨b1, o1 + k, none⟩) (show b1 < _ from by omega)]; exact hq1
      have Hk2 := Lib.hid (allTo_succ (rz xs) k)
      have Hbad : Hid (rz xs k = false → rises xs = false) := Lib.hid (fun h => allTo_bad _ k _ hlt h)
      have Hp := Lib.hid (rz_low hlt hall)
      have Hnx := Lib.hid (lowK_next hlt)
      clear hq1 hI1 hbel hall
      generalize hxk : xs[k] = x at *
      generalize lowK xs k = l at *
      clear hxk
      cases h1 : decide (x < l)
      · cases h2 : decide (65536 ≤ x)
        · have Hall2 : Hid (allTo (rz xs) (k + 1) = true) := Lib.hid (by rw [Hk2.out, Hall.out, Hp.out, h1, h2]; rfl)
          have hx0 : 0 ≤ x := by have := of_decide_eq_false h1; have := Hbd.out; omega
          have hx1 : x < 65536 := by have := of_decide_eq_false h2; omega
          have hwr : IntKind.i64.wrap (x + 1) = x + 1 := IntWalk.i64_in _ (by omega)
          clear Hbad
          go_wp2
          go_roundw
          case rel => exact ⟨k + 1, by omega, by rw [Hnx.out], by go_num, Hbel.out, Hall2.out⟩
          case measure => simp [intOf]; omega
        · have Hf := Lib.hid (Hbad.out (by rw [Hp.out, h1, h2]; rfl))
          clear Hbad
          go_wp2
          go_ret
          exact ⟨by rw [Hf.out]; rfl, Hbel.out⟩
      · have Hf := Lib.hid (Hbad.out (by rw [Hp.out, h1]; rfl))
        clear Hbad
        go_wp2
        go_ret
        exact ⟨by rw [Hf.out]; rfl, Hbel.out⟩
    · obtain rfl : k = xs.length := by omega
      clear hbel hall
      generalize lowK xs xs.length = l at *
      go_wp2
      go_ret
      exact ⟨by rw [show rises xs = true from Hall.out]; rfl, Hbel.out⟩
set_option maxHeartbeats 1000000 in
set_option maxRecDepth 100000 in
theorem keysN_any {B : Nat} {w : World} {v0 v1 v2 : Value} {cs : List EC} {ks ds : List Int} (h0 : RiC B w v0 cs) (h1 : Ri B w v1 ks) (h2 : Ri B w v2 ds) (hB : B ≤ w.heap.size) :
    Calls Try.prog 81 #[.agg #[.bool false, v0, v1, v2]] w (GivesB v1 w) := by
  obtain ⟨A0, c0, rfl, -⟩ := h0
  obtain ⟨A1, c1, rfl, -⟩ := h1
  obtain ⟨A2, c2, rfl, -⟩ := h2
  have q0 : (w.alloc (.cells #[.bool false, .slice A0 cs.length c0, .slice A1 ks.length c1, .slice A2 ds.length c2] 54)).cell? ⟨w.heap.size, 0, none⟩ = some (.bool false) := by rw [cell_of_row _ _ _ _ _ _ (heap_alloc_new w _)]; rfl
  have q2 : (w.alloc (.cells #[.bool false, .slice A0 cs.length c0, .slice A1 ks.length c1, .slice A2 ds.length c2] 54)).cell? ⟨w.heap.size, 2, none⟩ = some (.slice A1 ks.length c1) := by rw [cell_of_row _ _ _ _ _ _ (heap_alloc_new w _)]; rfl
  have HB0 : Hid (Below w.heap.size w (w.alloc (.cells #[.bool false, .slice A0 cs.length c0, .slice A1 ks.length c1, .slice A2 ds.length c2] 54))) := Lib.hid ((Below.refl _ w).alloc (Nat.le_refl _) _)
  go_enter Try.func81, Try.ntmps81
  go_wp2
  go_ret
  exact ⟨rfl, HB0.out⟩
set_option maxHeartbeats 1000000 in
set_option maxRecDepth 100000 in
theorem keysL_any {B : Nat} {w : World} {v0 v1 v2 : Value} {cs : List EC} {ks ds : List Int} (h0 : RiC B w v0 cs) (h1 : Ri B w v1 ks) (h2 : Ri B w v2 ds) (hB : B ≤ w.heap.size) (hs : cs.length ≤ 1048576) :
    Calls Try.prog 81 #[.agg #[.bool true, v0, v1, v2]] w fun e w' => ∃ v, e = .returned v ∧ Ri w'.heap.size w' v (keyL cs) ∧ Below w.heap.size w w' := by
  have HW := Lib.hid h0.wf
  obtain ⟨A0, c0, rfl, hl0, hm0, hx0⟩ := h0
  obtain ⟨A1, c1, rfl, -⟩ := h1
  obtain ⟨A2, c2, rfl, -⟩ := h2
  have Hx0 := Lib.hid hx0; clear hx0
  unfold maxLen at hm0
  have q0 : (w.alloc (.cells #[.bool true, .slice A0 cs.length c0, .slice A1 ks.length c1, .slice A2 ds.length c2] 54)).cell? ⟨w.heap.size, 0, none⟩ = some (.bool true) := by rw [cell_of_row _ _ _ _ _ _ (heap_alloc_new w _)]; rfl
  have q1 : (w.alloc (.cells #[.bool true, .slice A0 cs.length c0, .slice A1 ks.length c1, .slice A2 ds.length c2] 54)).cell? ⟨w.heap.size, 1, none⟩ = some (.slice A0 cs.length c0) := by rw [cell_of_row _ _ _ _ _ _ (heap_alloc_new w _)]; rfl
  have HB0 : Hid (Below w.heap.size w (w.alloc (.cells #[.bool true, .slice A0 cs.length c0, .slice A1 ks.length c1, .slice A2 ds.length c2] 54))) := Lib.hid ((Below.refl _ w).alloc (Nat.le_refl _) _)
  have HZ0 : Hid (w.heap.size + 1 ≤ (w.alloc (.cells #[.bool true, .slice A0 cs.length c0, .slice A1 ks.length c1, .slice A2 ds.length c2] 54)).heap.size) := Lib.hid (by simp)
  go_enter Try.func81, Try.ntmps81
  go_wp2
  clear q0 q1
  generalize (w.alloc (.cells #[.bool true, .slice A0 cs.length c0, .slice A1 ks.length c1, .slice A2 ds.length c2] 54)) = w0 at *
  go_loopw [3, 14] (fun v i wr => ∃ k : Nat, k ≤ cs.length ∧ i = .int .i64 (k : Int) ∧ OI wr (w.heap.size + 1) v ((keyL cs).take k) ∧ Below w.heap.size w wr ∧ w.heap.size + 1 ≤ wr.heap.size) (fun _ i _ => cs.length - (intOf i).toNat)
  case atStart => exact ⟨0, Nat.zero_le _, rfl, oi_none _ _, HB0.out, HZ0.out⟩
  case round =>
    obtain ⟨k, hk, rfl, ho, hbel, hz⟩ := hrel
    have HO := Lib.hid ho; have Hbel := Lib.hid hbel
    have hln : ((keyL cs).take k).length = k := by simp [keyL]; omega
    obtain ⟨A9, c9, rfl⟩ := ho.sl
    rw [hln] at HO ⊢
    by_cases hlt : k < cs.length
    · obtain ⟨b, o, rfl, hb, hc0, hc1, hc2, hc3, hI0, hI1, hI2, hI3⟩ := Hx0.out k hlt
      have HTk : Hid ((keyL cs).take k ++ [cs[k].1] = (keyL cs).take (k + 1)) := Lib.hid (by
        rw [List.take_succ_eq_append_getElem (by rw [keyL_len]; exact hlt)]; simp [keyL])
      have Hld := Lib.hid (run_load_cells (P := Try.prog) wr b (o + k * 4) 106 _ [.int .i64 cs[k].1, .int .i64 cs[k].2.1, .int .i64 cs[k].2.2.1, .int .i64 cs[k].2.2.2] (cells_C (by rw [hbel.cell (show b < _ from by omega)]; exact hc0) (by rw [hbel.cell (show b < _ from by omega)]; exact hc1) (by rw [hbel.cell (show b < _ from by omega)]; exact hc2) (by rw [hbel.cell (show b < _ from by omega)]; exact hc3)) Try.underlying106 (by kernel_rfl))
      clear hc0 hc1 hc2 hc3 hI0 hI1 hI2 hI3 ho hbel
      generalize cs[k].1 = n0 at *; generalize cs[k].2.1 = n1 at *; generalize cs[k].2.2.1 = n2 at *; generalize cs[k].2.2.2 = n3 at *
      have q0 : (wr.alloc (.cells #[.int .i64 n0, .int .i64 n1, .int .i64 n2, .int .i64 n3] 106)).cell? ⟨wr.heap.size, 0, none⟩ = some (.int .i64 n0) := by rw [cell_of_row _ _ _ _ _ _ (heap_alloc_new wr _)]; rfl
      have Hi0 : Hid ((Try.prog.info? 106).map (·.size) = some (#[.int .i64 n0, .int .i64 n1, .int .i64 n2, .int .i64 n3] : Array Value).size) := Lib.hid (by kernel_rfl)
      have H10 : Hid ((#[.int .i64 n0, .int .i64 n1, .int .i64 n2, .int .i64 n3] : Array Value).all (·.oneCell') = true) := Lib.hid (by simp [Value.oneCell'])
      have HB1 : Hid (Below (w.heap.size + 1) wr (wr.alloc (.cells #[.int .i64 n0, .int .i64 n1, .int .i64 n2, .int .i64 n3] 106))) := Lib.hid ((Below.refl _ wr).alloc hz _)
      have HO1 : Hid (OI (wr.alloc (.cells #[.int .i64 n0, .int .i64 n1, .int .i64 n2, .int .i64 n3] 106)) (w.heap.size + 1) (.slice A9 k c9) ((keyL cs).take k)) := Lib.hid (own_bel HO.out ((Below.refl _ wr).alloc (Nat.le_refl _) _))
      have HZ1 : Hid (w.heap.size + 1 ≤ (wr.alloc (.cells #[.int .i64 n0, .int .i64 n1, .int .i64 n2, .int .i64 n3] 106)).heap.size) := Lib.hid (by simp; omega)
      have Hsz : Hid ((wr.alloc (.cells #[.int .i64 n0, .int .i64 n1, .int .i64 n2, .int .i64 n3] 106)).heap.size = wr.heap.size + 1) := Lib.hid (by simp)
      go_wp2_with (first | (refine wpList_load_agg rfl 106 (.tmp 16) rfl _ rfl _ Hld.out ?_) | (refine wpList_store_last rfl 106 (.tmp 5) (.tmp 17) rfl #[.int .i64 n0, .int .i64 n1, .int .i64 n2, .int .i64 n3] _ 106 rfl rfl Hi0.out rfl H10.out ?_) | (at_builtin; refine wpList_push (W := (wr.alloc (.cells #[.int .i64 n0, .int .i64 n1, .int .i64 n2, .int .i64 n3] 106))) (v := .slice A9 k c9) (lo := w.heap.size + 1) (xs := (keyL cs).take k) (x := n0) rfl (.tmp 18) (.tmp 21) rfl rfl rfl Hsz.out HO1.out HZ1.out (by rw [hln]; omega) ?_; intro h9 cap w5 o5 g5 _ _; have HB5 := Lib.hid (push_below HO1.out (by have := HZ1.out; omega) g5); have O5 := Lib.hid o5; clear o5 g5 q0))
      go_roundw
      case rel => exact ⟨k + 1, by omega, by go_num, by have h := O5.out; rw [hln] at h; rw [← HTk.out]; exact h, (Hbel.out.trans ((HB1.out.trans (HB5.out.mono (Nat.le_refl _))).mono (by have := Hbel.out.size; omega))), by have := HB5.out.size; have := HZ1.out; omega⟩
      case measure => simp [intOf]; omega
    · obtain rfl : k = cs.length := by omega
      have HR : Hid (Ri wr.heap.size wr (.slice A9 cs.length c9) (keyL cs)) := Lib.hid (by
        have h := HO.out
        rw [List.take_of_length_le (by rw [keyL_len]; exact Nat.le_refl _)] at h
        exact h.ri (fun x hx => by
          obtain ⟨c, hc, rfl⟩ := List.mem_map.1 hx
          exact (HW.out c hc).1))
      clear ho hbel
      go_wp2
      go_ret
      exact ⟨_, rfl, HR.out, Hbel.out⟩
set_option maxHeartbeats 2000000 in
set_option maxRecDepth 100000 in
theorem idxC_any {B : Nat} {w : World} {v : Value} {ss : List EC} (h : RiC B w v ss) (hB : B ≤ w.heap.size) :
    Calls Try.prog 109 #[v, .func (.func 83) #[] #[]] w
      fun e w' => (∃ n : Int, e = .returned (.int .i64 n) ∧ -1 ≤ n ∧ n < 9223372036854775808 ∧ decide (0 ≤ n) = !allTo (chAt ss) ss.length) ∧ Below w.heap.size w w' := by
  obtain ⟨A, cap, rfl, hl, hm, hx⟩ := h
  unfold maxLen at hm
  have Hx := Lib.hid hx; clear hx
  go_enter Try.func109, Try.ntmps109
  go_wp2_with fail
  go_loopw [8] (fun i wr => ∃ k : Nat, k ≤ ss.length ∧ i = .int .i64 (k : Int) ∧ Below w.heap.size w wr ∧ allTo (chAt ss) k = true) (fun i _ => ss.length - (intOf i).toNat)
  case atStart => exact ⟨0, Nat.zero_le _, rfl, Below.refl _ _, allTo_zero _⟩
  case round =>
    obtain ⟨k, hk, rfl, hbel, hall⟩ := hrel
    have Hall := Lib.hid hall; have Hbel := Lib.hid hbel; clear hall
    by_cases hlt : k < ss.length
    · obtain ⟨b, o, rfl, hb, hc0, hc1, hc2, hc3, -⟩ := Hx.out k hlt
      have Hld := Lib.hid (run_load_cells (P := Try.prog) wr b (o + k * 4) 106 _ [.int .i64 ss[k].1, .int .i64 ss[k].2.1, .int .i64 ss[k].2.2.1, .int .i64 ss[k].2.2.2] (cells_C (by rw [hbel.cell (show b < _ from by omega)]; exact hc0) (by rw [hbel.cell (show b < _ from by omega)]; exact hc1) (by rw [hbel.cell (show b < _ from by omega)]; exact hc2) (by rw [hbel.cell (show b < _ from by omega)]; exact hc3)) Try.underlying106 (by kernel_rfl))
      have HS := Lib.hid (allTo_succ (chAt ss) k)
      have HP := Lib.hid (chAt_at hlt)
      have Hbad : Hid (chAt ss k = false → allTo (chAt ss) ss.length = false) := Lib.hid (fun h => allTo_bad _ k _ hlt h)
      have hsz := hbel.size
      have HC := Lib.hid (isInvalidChunk_any ss[k].1 ss[k].2.1 ss[k].2.2.1 ss[k].2.2.2 wr)
      clear hc0 hc1 hc2 hc3 hbel
      have HP := Lib.hid (HP.out.trans (show chOk ss[k] = chOk (ss[k].1, ss[k].2.1, ss[k].2.2.1, ss[k].2.2.2) from rfl))
      generalize ss[k].1 = n0 at *; generalize ss[k].2.1 = n1 at *; generalize ss[k].2.2.1 = n2 at *; generalize ss[k].2.2.2 = n3 at *
      cases hn : chOk (n0, n1, n2, n3)
      · have Hf := Lib.hid (Hbad.out (by rw [HP.out, hn]))
        rw [hn] at HC
        clear hn Hbad HP
        go_wp2_with (first | (refine wpList_load_agg rfl 106 (.tmp 14) rfl _ rfl _ Hld.out ?_) | (refine HC.out.mono ?_; rintro e w' ⟨rfl, g⟩; have Hg := Lib.hid (Hbel.out.trans (g.mono hsz)); clear g))
        go_ret
        exact ⟨⟨(k : Int), rfl, by omega, by omega, by rw [Hf.out]; simp⟩, Hg.out⟩
      · have Hall2 : Hid (allTo (chAt ss) (k + 1) = true) := Lib.hid (by rw [HS.out, Hall.out, HP.out, hn]; rfl)
        rw [hn] at HC
        clear hn Hbad HP
        go_wp2_with (first | (refine wpList_load_agg rfl 106 (.tmp 14) rfl _ rfl _ Hld.out ?_) | (refine HC.out.mono ?_; rintro e w' ⟨rfl, g⟩; have Hg := Lib.hid (Hbel.out.trans (g.mono hsz)); clear g))
        go_roundw
        case rel => exact ⟨k + 1, by omega, by go_num, Hg.out, Hall2.out⟩
        case measure => simp [intOf]; omega
    · obtain rfl : k = ss.length := by omega
      clear hbel
      go_wp2_with fail
      go_ret
      exact ⟨⟨-1, rfl, by omega, by omega, by rw [Hall.out]; rfl⟩, Hbel.out⟩
set_option maxHeartbeats 2000000 in
set_option maxRecDepth 100000 in
theorem hasC_any {B : Nat} {w : World} {v : Value} {ss : List EC} (h : RiC B w v ss) (hB : B ≤ w.heap.size) :
    Calls Try.prog 82 #[v, .func (.func 83) #[] #[]] w (GivesB (.bool (!allTo (chAt ss) ss.length)) w) := by
  have H := Lib.hid h
  obtain ⟨A, cap, rfl, -⟩ := h
  have HC := Lib.hid (idxC_any H.out hB)
  generalize (!allTo (chAt ss) ss.length) = r at *
  go_enter Try.func82, Try.ntmps82
  go_wp2_with fail
  refine HC.out.mono ?_
  rintro e w1 ⟨⟨n, rfl, n1, n2, hn⟩, g⟩
  have Hb1 := Lib.hid g; have Hn := Lib.hid hn; clear g hn
  go_wp2_with fail
  go_ret
  exact ⟨by rw [← Hn.out]; rfl, Hb1.out⟩
set_option maxHeartbeats 2000000 in
set_option maxRecDepth 100000 in
theorem idxK_any {B : Nat} {w : World} {v : Value} {ss : List Int} (h : Ri B w v ss) (hB : B ≤ w.heap.size) :
    Calls Try.prog 110 #[v, .func (.func 85) #[] #[]] w
      fun e w' => (∃ n : Int, e = .returned (.int .i64 n) ∧ -1 ≤ n ∧ n < 9223372036854775808 ∧ decide (0 ≤ n) = !allTo (kidAt ss) ss.length) ∧ Below w.heap.size w w' := by
  obtain ⟨A, cap, rfl, hl, hm, hx⟩ := h
  unfold maxLen at hm
  have Hx := Lib.hid hx; clear hx
  go_enter Try.func110, Try.ntmps110
  go_wp2_with fail
  go_loopw [8] (fun i wr => ∃ k : Nat, k ≤ ss.length ∧ i = .int .i64 (k : Int) ∧ Below w.heap.size w wr ∧ allTo (kidAt ss) k = true) (fun i _ => ss.length - (intOf i).toNat)
  case atStart => exact ⟨0, Nat.zero_le _, rfl, Below.refl _ _, allTo_zero _⟩
  case round =>
    obtain ⟨k, hk, rfl, hbel, hall⟩ := hrel
    have Hall := Lib.hid hall; have Hbel := Lib.hid hbel; clear hall
    by_cases hlt : k < ss.length
    · obtain ⟨b, o, rfl, hb, hc0, -⟩ := Hx.out k hlt
      have g1 := (hbel.cell (p := ⟨b, o + k, none⟩) (show b < _ by omega)).trans hc0
      have HS := Lib.hid (allTo_succ (kidAt ss) k)
      have HP := Lib.hid (kidAt_at hlt)
      have Hbad : Hid (kidAt ss k = false → allTo (kidAt ss) ss.length = false) := Lib.hid (fun h => allTo_bad _ k _ hlt h)
      have hsz := hbel.size
      have HC := Lib.hid (isInvalidPlace_any ss[k] wr)
      clear hc0 hbel
      generalize ss[k] = n0 at *
      cases hn : inB n0 1 255
      · have Hf := Lib.hid (Hbad.out (by rw [HP.out, hn]))
        rw [hn] at HC
        clear hn Hbad HP
        go_wp2_with (refine HC.out.mono ?_; rintro e w' ⟨rfl, hww⟩; have Hg : Hid (Below w.heap.size w w') := Lib.hid (hww ▸ Hbel.out); clear hww g1)
        go_ret
        exact ⟨⟨(k : Int), rfl, by omega, by omega, by rw [Hf.out]; simp⟩, Hg.out⟩
      · have Hall2 : Hid (allTo (kidAt ss) (k + 1) = true) := Lib.hid (by rw [HS.out, Hall.out, HP.out, hn]; rfl)
        rw [hn] at HC
        clear hn Hbad HP
        go_wp2_with (refine HC.out.mono ?_; rintro e w' ⟨rfl, hww⟩; have Hg : Hid (Below w.heap.size w w') := Lib.hid (hww ▸ Hbel.out); clear hww g1)
        go_roundw
        case rel => exact ⟨k + 1, by omega, by go_num, Hg.out, Hall2.out⟩
        case measure => simp [intOf]; omega
    · obtain rfl : k = ss.length := by omega
      clear hbel
      go_wp2_with fail
      go_ret
      exact ⟨⟨-1, rfl, by omega, by omega, by rw [Hall.out]; rfl⟩, Hbel.out⟩
set_option maxHeartbeats 2000000 in
set_option maxRecDepth 100000 in
theorem hasK_any {B : Nat} {w : World} {v : Value} {ss : List Int} (h : Ri B w v ss) (hB : B ≤ w.heap.size) :
    Calls Try.prog 84 #[v, .func (.func 85) #[] #[]] w (GivesB (.bool (!allTo (kidAt ss) ss.length)) w) := by
  have H := Lib.hid h
  obtain ⟨A, cap, rfl, -⟩ := h
  have HC := Lib.hid (idxK_any H.out hB)
  generalize (!allTo (kidAt ss) ss.length) = r at *
  go_enter Try.func84, Try.ntmps84
  go_wp2_with fail
  refine HC.out.mono ?_
  rintro e w1 ⟨⟨n, rfl, n1, n2, hn⟩, g⟩
  have Hb1 := Lib.hid g; have Hn := Lib.hid hn; clear g hn
  go_wp2_with fail
  go_ret
  exact ⟨by rw [← Hn.out]; rfl, Hb1.out⟩
end Go.Proofs.Ytabnglimchjgpaa
