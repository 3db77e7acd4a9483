/- DecodeHeap: the model. No statement is proved here. -/
import Derived.Test.YtabnglimchjgpaaDnI
import Derived.Test.YtabnglimchjgpaaRdr
namespace Go.Proofs.Ytabnglimchjgpaa
open Go.RowKit
set_option linter.unusedVariables false
theorem exL (s : ByteArray) (a : Nat) : (s.extract a s.size).data.toList = s.data.toList.drop a := by
  have hz := size_l s
  simp only [ByteArray.data_extract, Array.toList_extract, List.extract_eq_take_drop]
  rw [List.take_of_length_le]
  rw [List.length_drop]; omega
theorem ex_size (s : ByteArray) (a : Nat) : (s.extract a s.size).size = s.size - a := by
  have := size_l (s.extract a s.size)
  rw [exL, List.length_drop, size_l] at this
  omega
theorem fR_data {t : ByteArray} {n : Nat} (h : n ≤ t.size) : (fR t n).data.toList = t.data.toList.drop n := by
  unfold fR
  rw [Nat.min_eq_left h, exL]
theorem fT_data {t : ByteArray} {n : Nat} (h : n ≤ t.size) : (fT t n).data.toList = t.data.toList.take n := by
  unfold fT
  rw [Nat.min_eq_left h]
  simp only [ByteArray.data_extract, Array.toList_extract, List.extract_eq_take_drop, List.drop_zero, Nat.sub_zero]
theorem ex_fR {s : ByteArray} {a n : Nat} (h : a + n ≤ s.size) : fR (s.extract a s.size) n = s.extract (a + n) s.size := by
  apply ByteArray.ext
  apply Array.toList_inj.1
  rw [fR_data (by rw [ex_size]; omega), exL, exL, List.drop_drop]
theorem ex_fT {s : ByteArray} {a n : Nat} (h : a + n ≤ s.size) : fT (s.extract a s.size) n = s.extract a (a + n) := by
  apply ByteArray.ext
  apply Array.toList_inj.1
  rw [fT_data (by rw [ex_size]; omega), exL]
  simp only [ByteArray.data_extract, Array.toList_extract, List.extract_eq_take_drop]
  rw [Nat.add_sub_cancel_left]
theorem ex_nV {s : ByteArray} {a : Nat} (h : a < s.size) : nV (s.extract a s.size) 1 = (s[a].toNat : Int) := by
  have hz := size_l s
  have e : s.extract a s.size = ⟨(s.data.toList.drop a).toArray⟩ := by
    apply ByteArray.ext
    apply Array.toList_inj.1
    rw [exL]
  rw [e, nV_list _ 1 (by rw [List.length_drop]; omega) (by omega)]
  rw [List.drop_eq_getElem_cons (by omega)]
  simp only [List.take_succ_cons, List.take_zero, leVal]
  have e2 : s.data.toList[a]'(by omega) = s[a] := by simp; rfl
  rw [e2]; omega
/-- What one name's reading does, whole or not. -/
theorem rd_name {s : ByteArray} {a : Nat} (hs : s.size ≤ 1048576) (ha : a ≤ s.size) : ∃ (n a1 : Nat) (bd1 : Bool) (z : ByteArray) (a2 : Nat) (bd2 : Bool),
    (∀ X cc, RdA X cc s a false → Calls Try.prog 71 #[.pointer (some ⟨cc, 0, none⟩)] X (RdP cc (.int .i64 (n : Int)) s a1 bd1 X)) ∧
    (∀ X cc, RdA X cc s a1 bd1 → Calls Try.prog 72 #[.pointer (some ⟨cc, 0, none⟩), .int .i64 (n : Int)] X (RdP cc (.string z) s a2 bd2 X)) ∧ a2 ≤ s.size ∧
    ((bd2 = false ∧ pnG (s.extract a s.size) = true ∧ z = pnM (s.extract a s.size) ∧ pnR (s.extract a s.size) = s.extract a2 s.size) ∨ (bd2 = true ∧ pnG (s.extract a s.size) = false)) := by
  have hz := ex_size s a
  by_cases h0 : a < s.size
  rotate_left
  · refine ⟨0, a, true, s.extract a (a + 0), a + 0, true, fun X cc hX => rdByte_no hs ha (by omega) hX, fun X cc hX => rdTake_ok (n := 0) hs (by omega) hX, by omega, .inr ⟨rfl, ?_⟩⟩
    unfold pnG
    rw [decide_eq_false_iff_not]
    omega
  have hn := ex_nV h0
  have hN : pnN (s.extract a s.size) = s[a].toNat := by unfold pnN; rw [hn]; simp
  have hb := byte_lt s[a]
  by_cases h1 : a + 1 + s[a].toNat ≤ s.size
  · refine ⟨s[a].toNat, a + 1, false, s.extract (a + 1) (a + 1 + s[a].toNat), a + 1 + s[a].toNat, false, fun X cc hX => rdByte_ok hs h0 hX, fun X cc hX => rdTake_ok hs h1 hX, h1, .inl ⟨rfl, ?_, ?_, ?_⟩⟩
    · unfold pnG; rw [decide_eq_true_eq, hN]; omega
    · unfold pnM; rw [hN, ex_fR (by omega), ex_fT (by omega)]
    · unfold pnR; rw [hN, ex_fR (by omega), ex_fR (by omega)]
  · refine ⟨s[a].toNat, a + 1, false, ⟨#[]⟩, a + 1, true, fun X cc hX => rdByte_ok hs h0 hX, fun X cc hX => rdTake_no hs (by omega) (by omega) (by omega) hX, by omega, .inr ⟨rfl, ?_⟩⟩
    unfold pnG
    rw [decide_eq_false_iff_not, hN]
    omega
theorem dnX_bad {s : ByteArray} {j : Nat} (hj : j < dnC s) (h : dnG s j = false) : dnX s = false := by simp [dnX, allTo_bad _ j _ hj h]
theorem dnX_end {s : ByteArray} (h : (dnR (dn1 s) (dnC s)).size ≠ 0) : dnX s = false := by simp [dnX, h]
theorem dnX_mt {s : ByteArray} (h : s.size = 0) : dnX s = false := by simp [dnX, h]
theorem dnX_yes {s : ByteArray} (h0 : 1 ≤ s.size) (h1 : allTo (dnG s) (dnC s) = true) (h : (dnR (dn1 s) (dnC s)).size = 0) : dnX s = true := by simp [dnX, h0, h1, h]
theorem deO_x {s : ByteArray} (h : dnX s = false) : deO s = false := by simp [deO, h]
theorem deO_y {s : ByteArray} (h : dnX s = true) : deO s = hpOk (dnM s) := by simp [deO, h]
/-- Between two rounds, kk names to be read. -/
def HsR (w : World) (s : ByteArray) (iv : Value) (wr : World) : Prop := ∃ (kk a : Nat) (bd : Bool) (v : Value) (D : List ByteArray), kk ≤ dnC s ∧ iv = .int .i64 (kk : Int) ∧ HnI (fun W => RdA W (w.heap.size + 1) s a bd) w v D wr ∧ a ≤ s.size ∧ D.length = dnC s - kk ∧
  (bd = false → D = dnL (dn1 s) (dnC s - kk) ∧ dnR (dn1 s) (dnC s - kk) = s.extract a s.size ∧ allTo (dnG s) (dnC s - kk) = true ∧ 1 ≤ s.size) ∧ (bd = true → dnX s = false)
set_option maxHeartbeats 8000000 in
set_option maxRecDepth 100000 in
theorem specDecodeHeap_any {s : ByteArray} (hs : s.size ≤ 1048576) {w : World} :
    Calls Try.prog 33 #[.string s] w (AnsH (mkB2 (deO s)) (deL s) w) := by
  have HW := Lib.hid (three_newH w (.cells #[.slice none 0 0] 27 (0, 0)) (.cells #[.string s, .int .i64 0, .bool false] 92 (0, 0)) (.cells #[.slice none 0 0] 27 (0, 0)))
  have H1 : Hid (∃ (n a1 : Nat) (bd1 : Bool), (∀ X cc, RdA X cc s 0 false → Calls Try.prog 71 #[.pointer (some ⟨cc, 0, none⟩)] X (RdP cc (.int .i64 (n : Int)) s a1 bd1 X)) ∧ n = dnC s ∧ a1 ≤ s.size ∧ (bd1 = false → dn1 s = s.extract a1 s.size ∧ 1 ≤ s.size) ∧ (bd1 = true → dnX s = false)) := Lib.hid (by
    by_cases h0 : 0 < s.size
    · have e0 : s.extract 0 s.size = s := by simp
      have hn := ex_nV h0
      rw [e0] at hn
      refine ⟨s[0].toNat, 1, false, fun X cc hX => rdByte_ok hs h0 hX, by unfold dnC; rw [hn]; simp, by omega, fun _ => ⟨?_, by omega⟩, fun h => absurd h (by decide)⟩
      have := ex_fR (s := s) (a := 0) (n := 1) (by omega)
      rw [e0] at this
      unfold dn1; rw [this]
    · refine ⟨0, 0, true, fun X cc hX => rdByte_no hs (by omega) (by omega) hX, ?_, by omega, fun h => absurd h (by decide), fun _ => dnX_mt (by omega)⟩
      unfold dnC nV
      rw [if_neg (by omega)]; rfl)
  obtain ⟨n0, a0, bd0, hb0, hn0, ha0, hf0, ht0⟩ := H1.out
  have HB := Lib.hid hb0; have HF0 := Lib.hid hf0; have HT0 := Lib.hid ht0; have HN0 := Lib.hid hn0
  clear hb0 hf0 ht0 hn0 H1
  go_enter Try.func33, Try.ntmps33
  go_wp2_with (refine wpList_store_last rfl 27 (.tmp 5) (.tmp 10) rfl #[.slice none 0 0] _ 27 rfl rfl (infoHs _ _ _) rfl (oneH _ _ _) ?_)
  generalize (((w.alloc (.cells #[.slice none 0 0] 27)).alloc (.cells #[.string s, .int .i64 0, .bool false] 92)).alloc (.cells #[.slice none 0 0] 27)) = w0 at *
  refine (HB.out w0 (w.heap.size + 1) HW.out.2.1).mono ?_
  rintro e w4 ⟨rfl, f1, k1, y1, b1⟩
  have HI : Hid (HsR w s (.int .i64 (n0 : Int)) w4) := Lib.hid ⟨n0, a0, bd0, .slice none 0 0, [], by rw [HN0.out]; exact Nat.le_refl _, rfl, ⟨f1, (k1 _ (by omega)).trans HW.out.2.2.1, (k1 _ (by omega)).trans HW.out.1, ot_mt _ _, by rw [y1, HW.out.2.2.2.1]; omega, HW.out.2.2.2.2.trans (b1.mono (Nat.le_succ _))⟩, ha0, by rw [HN0.out]; simp, fun h => by
    rw [HN0.out, Nat.sub_self]
    exact ⟨rfl, (HF0.out h).1, allTo_zero _, (HF0.out h).2⟩, HT0.out⟩
  clear f1 k1 y1 b1 HW HB HF0 HT0 HN0
  have HSM := Lib.hid (dnM_sm hs)
  have HO1 : Hid (dnX s = false → deO s = false) := Lib.hid deO_x
  have HO2 : Hid (deO s = false → deL s = []) := Lib.hid de_no
  have HO3 : Hid (deO s = true → deL s = dnM s) := Lib.hid de_yes
  have HO4 : Hid (dnX s = true → deO s = hpOk (dnM s)) := Lib.hid deO_y
  have HcL := Lib.hid (dnC_le s)
  generalize deO s = ok at *
  generalize deL s = DD at *
  go_wp2_with fail
  go_loopw [6] (fun iv wr => HsR w s iv wr) (fun iv _ => (intOf iv).toNat)
  case atStart => exact HI.out
  case round =>
    obtain ⟨kk, a, bd, v, D, hkk, rfl, hh, ha, hdl, hf, ht⟩ := hrel
    have HH := Lib.hid hh; have HF := Lib.hid hf; have HT := Lib.hid ht; have HDL := Lib.hid hdl
    clear hh hf ht hdl
    have q0 : wr.cell? ⟨w.heap.size + 1, 1, none⟩ = some (.int .i64 (a : Int)) ∧ wr.cell? ⟨w.heap.size + 1, 2, none⟩ = some (.bool bd) := ⟨(RdA.q HH.out.1).2.1, (RdA.q HH.out.1).2.2.1⟩
    obtain ⟨q1, q2⟩ := q0
    have R0 := Lib.hid HH.out.2.2.1
    have HBw := Lib.hid HH.out.2.2.2.2.2
    cases bd
    rotate_left
    · have Hf : Hid (ok = false) := Lib.hid (HO1.out (HT.out rfl))
      have Hg := Lib.hid (HO2.out Hf.out)
      cases kk with
      | zero =>
        go_wp2_with (refine wpList_store_row rfl 27 (.tmp 2) (.tmp 51) rfl w.heap.size #[.slice none 0 0] rfl rfl 27 _ R0.out (infoHs _ _ _) rfl (oneH _ _ _) ?_)
        refine bodyPost_ret (v := .tuple #[.agg #[.slice none 0 0], .bool false]) ?_ rfl ?_
        · exact results_cell_row2 rfl _ _ w.heap.size 27 _ (0, 0) _ _ rfl rfl (setRow_heap _ _ _ _ _ _ R0.out) Try.underlying27 rfl (by kernel_rfl)
        · rw [Hf.out, Hg.out]; exact AnsH.zero (mk := mkB2 false) (Nat.le_refl _) HBw.out
      | succ kk9 =>
        have dk : decide ((0 : Int) < ((kk9 + 1 : Nat) : Int)) = true := decide_eq_true (by omega)
        go_wp2_with (refine wpList_store_row rfl 27 (.tmp 2) (.tmp 51) rfl w.heap.size #[.slice none 0 0] rfl rfl 27 _ R0.out (infoHs _ _ _) rfl (oneH _ _ _) ?_)
        refine bodyPost_ret (v := .tuple #[.agg #[.slice none 0 0], .bool false]) ?_ rfl ?_
        · exact results_cell_row2 rfl _ _ w.heap.size 27 _ (0, 0) _ _ rfl rfl (setRow_heap _ _ _ _ _ _ R0.out) Try.underlying27 rfl (by kernel_rfl)
        · rw [Hf.out, Hg.out]; exact AnsH.zero (mk := mkB2 false) (Nat.le_refl _) HBw.out
    cases kk with
    | zero =>
      obtain ⟨hD, hR, hall, h1s⟩ := HF.out rfl
      rw [Nat.sub_zero] at hD hR hall
      have HMe : Hid (dnM s = D) := Lib.hid (by unfold dnM; exact hD.symm)
      have hrz : (dnR (dn1 s) (dnC s)).size = s.size - a := by rw [hR, ex_size]
      by_cases he : a = s.size
      rotate_left
      · have Hf : Hid (ok = false) := Lib.hid (HO1.out (dnX_end (by omega)))
        have Hg := Lib.hid (HO2.out Hf.out)
        have e1 : ((a : Int) == (s.size : Int)) = false := beq_eq_false_iff_ne.2 (by omega)
        have e2 : ((a : Int) != (s.size : Int)) = true := by simp; omega
        have e3 : ¬ (a : Int) = (s.size : Int) := by omega
        clear hD hR hall hrz he
        go_wp2_with (refine wpList_store_row rfl 27 (.tmp 2) (.tmp 51) rfl w.heap.size #[.slice none 0 0] rfl rfl 27 _ R0.out (infoHs _ _ _) rfl (oneH _ _ _) ?_)
        refine bodyPost_ret (v := .tuple #[.agg #[.slice none 0 0], .bool false]) ?_ rfl ?_
        · exact results_cell_row2 rfl _ _ w.heap.size 27 _ (0, 0) _ _ rfl rfl (setRow_heap _ _ _ _ _ _ R0.out) Try.underlying27 rfl (by kernel_rfl)
        · rw [Hf.out, Hg.out]; exact AnsH.zero (mk := mkB2 false) (Nat.le_refl _) HBw.out
      have HOk : Hid (ok = hpOk D) := Lib.hid (by rw [← HMe.out]; exact HO4.out (dnX_yes h1s hall (by omega)))
      have HI9 : Hid (∀ x ∈ D, x.size ≤ maxLen) := Lib.hid (fun x hx => max_1m (HSM.out.2 x (by rw [HMe.out]; exact hx)))
      have HSD : Hid (SmT D) := Lib.hid (by rw [← HMe.out]; exact HSM.out)
      obtain ⟨VA, vc, rfl⟩ := HH.out.2.2.2.1.op
      have HOt : Hid (OT wr (w.heap.size + 3) (.slice VA D.length vc) D) := Lib.hid HH.out.2.2.2.1
      have R2 := Lib.hid HH.out.2.1
      have Z0 := Lib.hid HH.out.2.2.2.2.1
      have HCv := Lib.hid (l16Ok_any (HOt.out.rit HI9.out) (Nat.le_refl _) HSD.out)
      have HO5 : Hid (ok = true → DD = D) := Lib.hid (fun h => (HO3.out h).trans HMe.out)
      have q5 : wr.cell? ⟨w.heap.size + 1 + 1, 0, none⟩ = some (.slice VA D.length vc) := by rw [cell_of_row _ _ _ _ _ _ (show wr.heap[w.heap.size + 1 + 1]? = _ from R2.out)]; rfl
      have e1 : ((a : Int) == (s.size : Int)) = true := by simp; omega
      have e2 : ((a : Int) != (s.size : Int)) = false := by simp; omega
      have e3 : (a : Int) = (s.size : Int) := by omega
      clear hD hR hall hrz he HMe HH
      go_wp2_with fail
      clear q5 q1 q2
      refine HCv.out.mono ?_
      rintro e w5 ⟨rfl, g⟩
      have R5 := Lib.hid ((g.block _ (by have := Z0.out; omega)).trans R0.out)
      have T5 := Lib.hid ((g.block _ (by have := Z0.out; omega)).trans R2.out)
      have O5 : Hid (OT w5 (w.heap.size + 3) (.slice VA D.length vc) D) := Lib.hid (own_bel HOt.out g)
      have B5 := Lib.hid (HBw.out.trans (g.mono HBw.out.size))
      clear g HCv e1 e2 e3
      cases hok : hpOk D
      · have Hf : Hid (ok = false) := Lib.hid (by rw [HOk.out, hok])
        have Hg := Lib.hid (HO2.out Hf.out)
        clear hok
        go_wp2_with (refine wpList_store_row rfl 27 (.tmp 2) (.tmp 51) rfl w.heap.size #[.slice none 0 0] rfl rfl 27 _ R5.out (infoHs _ _ _) rfl (oneH _ _ _) ?_)
        refine bodyPost_ret (v := .tuple #[.agg #[.slice none 0 0], .bool false]) ?_ rfl ?_
        · exact results_cell_row2 rfl _ _ w.heap.size 27 _ (0, 0) _ _ rfl rfl (setRow_heap _ _ _ _ _ _ R5.out) Try.underlying27 rfl (by kernel_rfl)
        · rw [Hf.out, Hg.out]; exact AnsH.zero (mk := mkB2 false) (Nat.le_refl _) B5.out
      have Hf : Hid (ok = true) := Lib.hid (by rw [HOk.out, hok])
      have Hg := Lib.hid (HO5.out Hf.out)
      clear hok
      go_wp2_with (first | (refine wpList_load_row rfl 27 (.tmp 5) rfl _ rfl 27 _ (0, 0) _ T5.out Try.underlying27 rfl (by kernel_rfl) ?_) | (refine wpList_store_row rfl 27 (.tmp 2) (.tmp 52) rfl w.heap.size #[.slice VA D.length vc] rfl rfl 27 _ R5.out (infoHs _ _ _) rfl (oneH _ _ _) ?_))
      refine bodyPost_ret (v := .tuple #[.agg #[.slice VA D.length vc], .bool true]) ?_ rfl ?_
      · exact results_cell_row2 rfl _ _ w.heap.size 27 _ (0, 0) _ _ rfl rfl (setRow_heap _ _ _ _ _ _ R5.out) Try.underlying27 rfl (by kernel_rfl)
      · rw [Hf.out, Hg.out]; exact AnsH.end (mk := mkB2 true) (lo := w.heap.size + 3) O5.out (by omega) (Nat.le_refl _) B5.out
    | succ kk9 =>
      obtain ⟨hD, hR, hall, h1s⟩ := HF.out rfl
      have hj : dnC s - (kk9 + 1) + 1 = dnC s - kk9 := by omega
      obtain ⟨n, a1, bd1, z, a2, bd2, c1, c2, ha2, hz2⟩ := rd_name (s := s) (a := a) hs ha
      have C1 : Hid (∀ X, RdA X (w.heap.size + 1) s a false → _) := Lib.hid (fun X hX => c1 X (w.heap.size + 1) hX)
      have C2 : Hid (∀ X, RdA X (w.heap.size + 1) s a1 bd1 → _) := Lib.hid (fun X hX => c2 X (w.heap.size + 1) hX)
      have HA2 := Lib.hid ha2
      have HNf : Hid (bd2 = false → D ++ [z] = dnL (dn1 s) (dnC s - kk9) ∧ dnR (dn1 s) (dnC s - kk9) = s.extract a2 s.size ∧ allTo (dnG s) (dnC s - kk9) = true ∧ 1 ≤ s.size) := Lib.hid (fun h => by
        rcases hz2 with ⟨_, p1, p2, p3⟩ | ⟨p1, _⟩
        · rw [← hj, dnL, dnR, hR, p3, allTo_succ, hall, p2, hD]
          exact ⟨rfl, rfl, by unfold dnG; rw [hR, p1]; rfl, h1s⟩
        · rw [h] at p1; cases p1)
      have HNt : Hid (bd2 = true → dnX s = false) := Lib.hid (fun h => by
        rcases hz2 with ⟨p1, _⟩ | ⟨_, p2⟩
        · rw [h] at p1; cases p1
        · exact dnX_bad (j := dnC s - (kk9 + 1)) (by omega) (by unfold dnG; rw [hR]; exact p2))
      clear hz2 c1 c2 ha2 hD hR hall h1s hj HF HT HO1 HO2 HO3 HO4 HSM
      have dk : decide ((0 : Int) < ((kk9 + 1 : Nat) : Int)) = true := decide_eq_true (by omega)
      have hkb : kk9 ≤ 255 := by have := HcL.out; omega
      go_wp2_with fail
      clear q1 q2
      obtain ⟨VA, vc, rfl⟩ := OT.op HH.out.2.2.2.1
      have HO := Lib.hid HH.out.2.2.2.1
      have hY := HH.out.2.2.2.2.1
      have HQ : Hid (∀ X : World, X.heap[w.heap.size + 2]? = wr.heap[w.heap.size + 2]? → X.cell? ⟨w.heap.size + 2, 0, none⟩ = some (.slice VA D.length vc)) := Lib.hid (fun X hX => by rw [cell_of_row _ _ _ _ _ _ (hX.trans HH.out.2.1)]; rfl)
      have F0 : Hid (RdA wr.drew (w.heap.size + 1) s a false) := Lib.hid HH.out.1
      have K0 : Hid (∀ q, q ≠ w.heap.size + 1 → wr.drew.heap[q]? = wr.heap[q]?) := Lib.hid (fun q _ => rfl)
      have Y0 : Hid (wr.drew.heap.size = wr.heap.size) := Lib.hid rfl
      have B0 : Hid (Below (w.heap.size + 1) wr wr.drew) := Lib.hid (Below.refl _ _).drew
      have HFP : Hid (∀ X, RdA X (w.heap.size + 1) s a2 bd2 → ∀ W : World, W.heap[w.heap.size + 1]? = X.heap[w.heap.size + 1]? → RdA W (w.heap.size + 1) s a2 bd2) := Lib.hid (fun X hX W hW => by unfold RdA; rw [hW]; exact hX)
      refine wp_region_held_drew (S := (fun _ => True)) (by kernel_rfl) (trivial) (fun hHeld => ?_)
      refine held_yes 0 (some 24) rfl rfl (by kernel_rfl) (by kernel_rfl) (by kernel_rfl) (fun _ _ _ h => h) (by kernel_rfl) hHeld (v := ?_) (fun wz hSw => ?_) ?_
      rotate_left 1
      · (try dsimp only at hSw); go_simp; (try with_reducible rfl)
      try simp only [Act.put, List.setIfInBounds_toArray, List.set_cons_zero, List.set_cons_succ]
      refine held_yes 2 (some 26) rfl rfl (by kernel_rfl) (by kernel_rfl) (by kernel_rfl) (fun _ _ _ h => h) (by kernel_rfl) hHeld (v := ?_) (fun wz hSw => ?_) ?_
      rotate_left 1
      · (try dsimp only at hSw); go_simp; (try with_reducible rfl)
      try simp only [Act.put, List.setIfInBounds_toArray, List.set_cons_zero, List.set_cons_succ]
      refine held_yes 3 (some 27) rfl rfl (by kernel_rfl) (by kernel_rfl) (by kernel_rfl) (fun _ _ _ h => h) (by kernel_rfl) hHeld (v := ?_) (fun wz hSw => ?_) ?_
      rotate_left 1
      · (try dsimp only at hSw); go_simp; (try with_reducible rfl)
      try simp only [Act.put, List.setIfInBounds_toArray, List.set_cons_zero, List.set_cons_succ]
      refine wpAnyH_ready (rs := [1, 4]) (by kernel_rfl) (by simp) ?_
      refine AllReadyH.cons rfl (fun K hK => ?_) (AllReadyH.cons rfl (fun K hK => ?_) AllReadyH.nil)
      · skip
        have qld := HQ.out _ (rfl)
        go_simp
        refine hK.out _ _ trivial (fun hHeld => ?_)
        clear hK K qld
        try simp only [Act.put, List.setIfInBounds_toArray, List.set_cons_zero, List.set_cons_succ]
        refine wpAnyH_ready (rs := [4]) (by kernel_rfl) (by simp) ?_
        refine AllReadyH.cons rfl (fun K hK => ?_) AllReadyH.nil
        go_simp
        go_at_call 71
        go_fit (C1.out _ F0.out)
        rintro e u1 ⟨rfl, ff, kk, yy, bb⟩
        have F1 := Lib.hid ff; have K1 := Lib.hid (fun q (hq : q ≠ w.heap.size + 1) => (kk q hq).trans (K0.out q hq)); have Y1 := Lib.hid (yy.trans Y0.out); have B1 := Lib.hid (B0.out.trans bb)
        have KH1 := Lib.hid (K1.out (w.heap.size + 2) (by omega))
        clear ff kk yy bb
        refine hK.out _ _ trivial (fun hHeld => ?_)
        clear hK K
        try simp only [Act.put, List.setIfInBounds_toArray, List.set_cons_zero, List.set_cons_succ]
        refine wpAnyH_ready (rs := [5]) (by kernel_rfl) (by simp) ?_
        refine AllReadyH.cons rfl (fun K hK => ?_) AllReadyH.nil
        go_simp
        go_at_call 72
        go_fit (C2.out _ F1.out)
        rintro e u2 ⟨rfl, ff, kk, yy, bb⟩
        have F2 := Lib.hid ff; have K2 := Lib.hid (fun q (hq : q ≠ w.heap.size + 1) => (kk q hq).trans (K1.out q hq)); have Y2 := Lib.hid (yy.trans Y1.out); have B2 := Lib.hid (B1.out.trans bb)
        have KH2 := Lib.hid (K2.out (w.heap.size + 2) (by omega))
        clear ff kk yy bb
        refine hK.out _ _ trivial (fun hHeld => ?_)
        clear hK K
        try simp only [Act.put, List.setIfInBounds_toArray, List.set_cons_zero, List.set_cons_succ]
        refine wpAnyH_ready (rs := [6]) (by kernel_rfl) (by simp) ?_
        refine AllReadyH.cons rfl (fun K hK => ?_) AllReadyH.nil
        have KH3 : Hid ((u2.alloc (.cells #[.string z] 9)).heap[w.heap.size + 2]? = wr.heap[w.heap.size + 2]?) := Lib.hid ((heap_old _ _ (by have := Y2.out; omega)).trans KH2.out)
        go_simp
        refine hK.out _ _ trivial (fun hHeld => ?_)
        clear hK K
        try simp only [Act.put, List.setIfInBounds_toArray, List.set_cons_zero, List.set_cons_succ]
        refine wpAnyH_ready (rs := [7]) (by kernel_rfl) (by simp) ?_
        refine AllReadyH.cons rfl (fun K hK => ?_) AllReadyH.nil
        refine wp_pushdT (W := u2) (v := .slice VA D.length vc) (lo := w.heap.size + 3) (xs := D) (x := z) (some 31) (by kernel_rfl) (.tmp 25) (.tmp 30) rfl rfl rfl rfl rfl (own_same HO.out (fun q hq => K2.out q (by have := (own_wi HO.out q hq).1; omega))) (by have := Y2.out; omega) (by have := HDL.out; have := HcL.out; omega) ?_
        intro g4 cap4 w4 ow4 gr4 lt4
        obtain ⟨st, m1, m2⟩ := HnI.step (F' := (fun W => RdA W (w.heap.size + 1) s a2 bd2)) HH.out (HFP.out _ F2.out) K2.out Y2.out B2.out ow4 gr4
        have ST := Lib.hid st; clear st ow4 gr4
        refine hK.out _ _ trivial (fun hHeld => ?_)
        clear hK K
        try simp only [Act.put, List.setIfInBounds_toArray, List.set_cons_zero, List.set_cons_succ]
        refine held_yes 8 (some 32) rfl rfl (by kernel_rfl) (by kernel_rfl) (by kernel_rfl) (fun _ _ _ h => h) (by kernel_rfl) hHeld (v := ?_) (fun wz hSw => ?_) ?_
        rotate_left 1
        · (try dsimp only at hSw); go_simp; (try with_reducible rfl)
        try simp only [Act.put, List.setIfInBounds_toArray, List.set_cons_zero, List.set_cons_succ]
        refine wpAnyH_ready (rs := [9]) (by kernel_rfl) (by simp) ?_
        refine AllReadyH.cons rfl (fun K hK => ?_) AllReadyH.nil
        go_simp
        refine hK.out _ _ trivial (fun hHeld => ?_)
        clear hK K m1 m2 hHeld
        try simp only [Act.put, List.setIfInBounds_toArray, List.set_cons_zero, List.set_cons_succ]
        refine wpAnyH_done (by kernel_rfl) ?_ _
        try simp only [Exit.then]
        go_wp2_with fail
        go_roundw
        case rel => exact ⟨kk9, a2, bd2, _, D ++ [z], by omega, by first | rfl | (congr 1; omega) | simp, by have e9 := ST.out; exact e9, HA2.out, by rw [List.length_append, HDL.out, List.length_singleton]; omega, HNf.out, HNt.out⟩
        case measure => simp [intOf]
      · skip
        go_simp
        go_at_call 71
        go_fit (C1.out _ F0.out)
        rintro e u1 ⟨rfl, ff, kk, yy, bb⟩
        have F1 := Lib.hid ff; have K1 := Lib.hid (fun q (hq : q ≠ w.heap.size + 1) => (kk q hq).trans (K0.out q hq)); have Y1 := Lib.hid (yy.trans Y0.out); have B1 := Lib.hid (B0.out.trans bb)
        have KH1 := Lib.hid (K1.out (w.heap.size + 2) (by omega))
        clear ff kk yy bb
        refine hK.out _ _ trivial (fun hHeld => ?_)
        clear hK K
        try simp only [Act.put, List.setIfInBounds_toArray, List.set_cons_zero, List.set_cons_succ]
        refine wpAnyH_ready (rs := [1, 5]) (by kernel_rfl) (by simp) ?_
        refine AllReadyH.cons rfl (fun K hK => ?_) (AllReadyH.cons rfl (fun K hK => ?_) AllReadyH.nil)
        · skip
          have qld := HQ.out _ (KH1.out)
          go_simp
          refine hK.out _ _ trivial (fun hHeld => ?_)
          clear hK K qld
          try simp only [Act.put, List.setIfInBounds_toArray, List.set_cons_zero, List.set_cons_succ]
          refine wpAnyH_ready (rs := [5]) (by kernel_rfl) (by simp) ?_
          refine AllReadyH.cons rfl (fun K hK => ?_) AllReadyH.nil
          go_simp
          go_at_call 72
          go_fit (C2.out _ F1.out)
          rintro e u2 ⟨rfl, ff, kk, yy, bb⟩
          have F2 := Lib.hid ff; have K2 := Lib.hid (fun q (hq : q ≠ w.heap.size + 1) => (kk q hq).trans (K1.out q hq)); have Y2 := Lib.hid (yy.trans Y1.out); have B2 := Lib.hid (B1.out.trans bb)
          have KH2 := Lib.hid (K2.out (w.heap.size + 2) (by omega))
          clear ff kk yy bb
          refine hK.out _ _ trivial (fun hHeld => ?_)
          clear hK K
          try simp only [Act.put, List.setIfInBounds_toArray, List.set_cons_zero, List.set_cons_succ]
          refine wpAnyH_ready (rs := [6]) (by kernel_rfl) (by simp) ?_
          refine AllReadyH.cons rfl (fun K hK => ?_) AllReadyH.nil
          have KH3 : Hid ((u2.alloc (.cells #[.string z] 9)).heap[w.heap.size + 2]? = wr.heap[w.heap.size + 2]?) := Lib.hid ((heap_old _ _ (by have := Y2.out; omega)).trans KH2.out)
          go_simp
          refine hK.out _ _ trivial (fun hHeld => ?_)
          clear hK K
          try simp only [Act.put, List.setIfInBounds_toArray, List.set_cons_zero, List.set_cons_succ]
          refine wpAnyH_ready (rs := [7]) (by kernel_rfl) (by simp) ?_
          refine AllReadyH.cons rfl (fun K hK => ?_) AllReadyH.nil
          refine wp_pushdT (W := u2) (v := .slice VA D.length vc) (lo := w.heap.size + 3) (xs := D) (x := z) (some 31) (by kernel_rfl) (.tmp 25) (.tmp 30) rfl rfl rfl rfl rfl (own_same HO.out (fun q hq => K2.out q (by have := (own_wi HO.out q hq).1; omega))) (by have := Y2.out; omega) (by have := HDL.out; have := HcL.out; omega) ?_
          intro g4 cap4 w4 ow4 gr4 lt4
          obtain ⟨st, m1, m2⟩ := HnI.step (F' := (fun W => RdA W (w.heap.size + 1) s a2 bd2)) HH.out (HFP.out _ F2.out) K2.out Y2.out B2.out ow4 gr4
          have ST := Lib.hid st; clear st ow4 gr4
          refine hK.out _ _ trivial (fun hHeld => ?_)
          clear hK K
          try simp only [Act.put, List.setIfInBounds_toArray, List.set_cons_zero, List.set_cons_succ]
          refine held_yes 8 (some 32) rfl rfl (by kernel_rfl) (by kernel_rfl) (by kernel_rfl) (fun _ _ _ h => h) (by kernel_rfl) hHeld (v := ?_) (fun wz hSw => ?_) ?_
          rotate_left 1
          · (try dsimp only at hSw); go_simp; (try with_reducible rfl)
          try simp only [Act.put, List.setIfInBounds_toArray, List.set_cons_zero, List.set_cons_succ]
          refine wpAnyH_ready (rs := [9]) (by kernel_rfl) (by simp) ?_
          refine AllReadyH.cons rfl (fun K hK => ?_) AllReadyH.nil
          go_simp
          refine hK.out _ _ trivial (fun hHeld => ?_)
          clear hK K m1 m2 hHeld
          try simp only [Act.put, List.setIfInBounds_toArray, List.set_cons_zero, List.set_cons_succ]
          refine wpAnyH_done (by kernel_rfl) ?_ _
          try simp only [Exit.then]
          go_wp2_with fail
          go_roundw
          case rel => exact ⟨kk9, a2, bd2, _, D ++ [z], by omega, by first | rfl | (congr 1; omega) | simp, by have e9 := ST.out; exact e9, HA2.out, by rw [List.length_append, HDL.out, List.length_singleton]; omega, HNf.out, HNt.out⟩
          case measure => simp [intOf]
        · skip
          go_simp
          go_at_call 72
          go_fit (C2.out _ F1.out)
          rintro e u2 ⟨rfl, ff, kk, yy, bb⟩
          have F2 := Lib.hid ff; have K2 := Lib.hid (fun q (hq : q ≠ w.heap.size + 1) => (kk q hq).trans (K1.out q hq)); have Y2 := Lib.hid (yy.trans Y1.out); have B2 := Lib.hid (B1.out.trans bb)
          have KH2 := Lib.hid (K2.out (w.heap.size + 2) (by omega))
          clear ff kk yy bb
          refine hK.out _ _ trivial (fun hHeld => ?_)
          clear hK K
          try simp only [Act.put, List.setIfInBounds_toArray, List.set_cons_zero, List.set_cons_succ]
          refine wpAnyH_ready (rs := [1, 6]) (by kernel_rfl) (by simp) ?_
          refine AllReadyH.cons rfl (fun K hK => ?_) (AllReadyH.cons rfl (fun K hK => ?_) AllReadyH.nil)
          · skip
            have qld := HQ.out _ (KH2.out)
            go_simp
            refine hK.out _ _ trivial (fun hHeld => ?_)
            clear hK K qld
            try simp only [Act.put, List.setIfInBounds_toArray, List.set_cons_zero, List.set_cons_succ]
            refine wpAnyH_ready (rs := [6]) (by kernel_rfl) (by simp) ?_
            refine AllReadyH.cons rfl (fun K hK => ?_) AllReadyH.nil
            have KH3 : Hid ((u2.alloc (.cells #[.string z] 9)).heap[w.heap.size + 2]? = wr.heap[w.heap.size + 2]?) := Lib.hid ((heap_old _ _ (by have := Y2.out; omega)).trans KH2.out)
            go_simp
            refine hK.out _ _ trivial (fun hHeld => ?_)
            clear hK K
            try simp only [Act.put, List.setIfInBounds_toArray, List.set_cons_zero, List.set_cons_succ]
            refine wpAnyH_ready (rs := [7]) (by kernel_rfl) (by simp) ?_
            refine AllReadyH.cons rfl (fun K hK => ?_) AllReadyH.nil
            refine wp_pushdT (W := u2) (v := .slice VA D.length vc) (lo := w.heap.size + 3) (xs := D) (x := z) (some 31) (by kernel_rfl) (.tmp 25) (.tmp 30) rfl rfl rfl rfl rfl (own_same HO.out (fun q hq => K2.out q (by have := (own_wi HO.out q hq).1; omega))) (by have := Y2.out; omega) (by have := HDL.out; have := HcL.out; omega) ?_
            intro g4 cap4 w4 ow4 gr4 lt4
            obtain ⟨st, m1, m2⟩ := HnI.step (F' := (fun W => RdA W (w.heap.size + 1) s a2 bd2)) HH.out (HFP.out _ F2.out) K2.out Y2.out B2.out ow4 gr4
            have ST := Lib.hid st; clear st ow4 gr4
            refine hK.out _ _ trivial (fun hHeld => ?_)
            clear hK K
            try simp only [Act.put, List.setIfInBounds_toArray, List.set_cons_zero, List.set_cons_succ]
            refine held_yes 8 (some 32) rfl rfl (by kernel_rfl) (by kernel_rfl) (by kernel_rfl) (fun _ _ _ h => h) (by kernel_rfl) hHeld (v := ?_) (fun wz hSw => ?_) ?_
            rotate_left 1
            · (try dsimp only at hSw); go_simp; (try with_reducible rfl)
            try simp only [Act.put, List.setIfInBounds_toArray, List.set_cons_zero, List.set_cons_succ]
            refine wpAnyH_ready (rs := [9]) (by kernel_rfl) (by simp) ?_
            refine AllReadyH.cons rfl (fun K hK => ?_) AllReadyH.nil
            go_simp
            refine hK.out _ _ trivial (fun hHeld => ?_)
            clear hK K m1 m2 hHeld
            try simp only [Act.put, List.setIfInBounds_toArray, List.set_cons_zero, List.set_cons_succ]
            refine wpAnyH_done (by kernel_rfl) ?_ _
            try simp only [Exit.then]
            go_wp2_with fail
            go_roundw
            case rel => exact ⟨kk9, a2, bd2, _, D ++ [z], by omega, by first | rfl | (congr 1; omega) | simp, by have e9 := ST.out; exact e9, HA2.out, by rw [List.length_append, HDL.out, List.length_singleton]; omega, HNf.out, HNt.out⟩
            case measure => simp [intOf]
          · skip
            have KH3 : Hid ((u2.alloc (.cells #[.string z] 9)).heap[w.heap.size + 2]? = wr.heap[w.heap.size + 2]?) := Lib.hid ((heap_old _ _ (by have := Y2.out; omega)).trans KH2.out)
            go_simp
            refine hK.out _ _ trivial (fun hHeld => ?_)
            clear hK K
            try simp only [Act.put, List.setIfInBounds_toArray, List.set_cons_zero, List.set_cons_succ]
            refine wpAnyH_ready (rs := [1]) (by kernel_rfl) (by simp) ?_
            refine AllReadyH.cons rfl (fun K hK => ?_) AllReadyH.nil
            have qld := HQ.out _ (KH3.out)
            go_simp
            refine hK.out _ _ trivial (fun hHeld => ?_)
            clear hK K qld
            try simp only [Act.put, List.setIfInBounds_toArray, List.set_cons_zero, List.set_cons_succ]
            refine wpAnyH_ready (rs := [7]) (by kernel_rfl) (by simp) ?_
            refine AllReadyH.cons rfl (fun K hK => ?_) AllReadyH.nil
            refine wp_pushdT (W := u2) (v := .slice VA D.length vc) (lo := w.heap.size + 3) (xs := D) (x := z) (some 31) (by kernel_rfl) (.tmp 25) (.tmp 30) rfl rfl rfl rfl rfl (own_same HO.out (fun q hq => K2.out q (by have := (own_wi HO.out q hq).1; omega))) (by have := Y2.out; omega) (by have := HDL.out; have := HcL.out; omega) ?_
            intro g4 cap4 w4 ow4 gr4 lt4
            obtain ⟨st, m1, m2⟩ := HnI.step (F' := (fun W => RdA W (w.heap.size + 1) s a2 bd2)) HH.out (HFP.out _ F2.out) K2.out Y2.out B2.out ow4 gr4
            have ST := Lib.hid st; clear st ow4 gr4
            refine hK.out _ _ trivial (fun hHeld => ?_)
            clear hK K
            try simp only [Act.put, List.setIfInBounds_toArray, List.set_cons_zero, List.set_cons_succ]
            refine held_yes 8 (some 32) rfl rfl (by kernel_rfl) (by kernel_rfl) (by kernel_rfl) (fun _ _ _ h => h) (by kernel_rfl) hHeld (v := ?_) (fun wz hSw => ?_) ?_
            rotate_left 1
            · (try dsimp only at hSw); go_simp; (try with_reducible rfl)
            try simp only [Act.put, List.setIfInBounds_toArray, List.set_cons_zero, List.set_cons_succ]
            refine wpAnyH_ready (rs := [9]) (by kernel_rfl) (by simp) ?_
            refine AllReadyH.cons rfl (fun K hK => ?_) AllReadyH.nil
            go_simp
            refine hK.out _ _ trivial (fun hHeld => ?_)
            clear hK K m1 m2 hHeld
            try simp only [Act.put, List.setIfInBounds_toArray, List.set_cons_zero, List.set_cons_succ]
            refine wpAnyH_done (by kernel_rfl) ?_ _
            try simp only [Exit.then]
            go_wp2_with fail
            go_roundw
            case rel => exact ⟨kk9, a2, bd2, _, D ++ [z], by omega, by first | rfl | (congr 1; omega) | simp, by have e9 := ST.out; exact e9, HA2.out, by rw [List.length_append, HDL.out, List.length_singleton]; omega, HNf.out, HNt.out⟩
            case measure => simp [intOf]
end Go.Proofs.Ytabnglimchjgpaa
