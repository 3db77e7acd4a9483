/- DecodeHeap: the program. No statement is proved here. -/
import Derived.Test.YtabnglimchjgpaaHeI
import Derived.Test.YtabnglimchjgpaaPtI
import Derived.Deep.Cut
import Derived.Deep.DeepFit
namespace Go.Proofs.Ytabnglimchjgpaa
open Go.RowKit
set_option linter.unusedVariables false
theorem wp_pushdT (d : Option Tmp) {o : Oper} {a : Act} {K : Act → World → Prop} {Q : Exit → Act → World → Prop} {W : World} {lo B : Nat} {v : Value} {xs : List ByteArray} {x : ByteArray} {E : Prop} {ops : Array Oper} (hw : Region.wanted o (yielded ops a.tmps) = true) (s y : Operand) (hd : o.dst = d)
    (ho : o.op = .call { callee := .builtin .append, args := #[s, y], argTypes := #[22, 22] }) (hs : a.eval s = v) (hx : a.eval y = .slice (some ⟨B, 0, none⟩) 1 1) (hB : W.heap.size = B)
    (hown : OT W lo v xs) (hlo : lo ≤ W.heap.size) (hlen : xs.length ≤ 1048576)
    (h : ∀ g cap w', OT w' lo (.slice (some ⟨g, 0, none⟩) (xs.length + 1) cap) (xs ++ [x]) → (W.alloc (.cells #[.string x] 9)).grownBy w' v.ownBlock → g < w'.heap.size →
      K (a.put d (.slice (some ⟨g, 0, none⟩) (xs.length + 1) cap)) w') : if Region.wanted o (yielded ops a.tmps) = true then Oper.wp Try.prog o a (W.alloc (.cells #[.string x] 9)) K Q else E := by
  subst hd
  rw [if_pos hw]
  obtain ⟨i0, hi, hz0, hz1, hz2⟩ := info_parts infoTH
  subst hB
  refine wp_append_lies _ s y 22 ho lo 9 i0 (.string ⟨#[]⟩) 1 16 Try.underlying22 hi hz0 hz1 hz2 rfl (by decide) v xs.length (xs.map Value.string) hs (own_bel hown ((Below.refl _ W).alloc (Nat.le_refl _) _))
    ⟨W.heap.size, 0, none⟩ 1 1 [.string x] hx rfl (fun j u hu => ?_) (fun u hu => ?_) (by decide) (by unfold maxLen; omega) (by omega) (by simp; omega) (W.heap.size + 1) (by simp) (fun g cap w' h1 h2 h3 h4 => h g cap w' ?_ h2 h4)
  · rcases j with _ | j
    · obtain rfl := Option.some.inj hu
      rw [add_at, cell_of_row _ _ _ _ _ _ (heap_alloc_new W _)]; rfl
    · simp at hu
  · obtain rfl := List.mem_singleton.1 hu; rfl
  · unfold OT; rw [List.length_append, List.map_append]; exact h1
/-- The three blocks between two rounds: result, reader (a fact F of it), heap. -/
def HnI (F : World → Prop) (w : World) (v : Value) (ss : List ByteArray) (wr : World) : Prop :=
  F wr ∧ wr.heap[w.heap.size + 2]? = some (.cells #[v] 27 (0, 0)) ∧ wr.heap[w.heap.size]? = some (.cells #[.slice none 0 0] 27 (0, 0)) ∧ OT wr (w.heap.size + 3) v ss ∧ w.heap.size + 3 ≤ wr.heap.size ∧ Below w.heap.size w wr
theorem heap_old (W : World) (o : Obj) {k : Nat} (h : k < W.heap.size) : (W.alloc o).heap[k]? = W.heap[k]? := ((Below.refl _ W).alloc (Nat.le_refl _) o).block k h
/-- One name is read: what the round has done. -/
theorem HnI.step {F F' : World → Prop} {w wr u w1 : World} {v : Value} {ss : List ByteArray} {z : ByteArray} {g cap : Nat} (h : HnI F w v ss wr) (hF : ∀ W, W.heap[w.heap.size + 1]? = u.heap[w.heap.size + 1]? → F' W) (hk : ∀ q, q ≠ w.heap.size + 1 → u.heap[q]? = wr.heap[q]?) (hz : u.heap.size = wr.heap.size) (hb : Below (w.heap.size + 1) wr u)
    (ho : OT w1 (w.heap.size + 3) (.slice (some ⟨g, 0, none⟩) (ss.length + 1) cap) (ss ++ [z])) (hg : (u.alloc (.cells #[.string z] 9)).grownBy w1 v.ownBlock) :
    HnI F' w (.slice (some ⟨g, 0, none⟩) (ss.length + 1) cap) (ss ++ [z]) (w1.setCell ⟨w.heap.size + 2, 0, none⟩ (.slice (some ⟨g, 0, none⟩) (ss.length + 1) cap)) ∧ w1.cell? ⟨w.heap.size + 2, 0, none⟩ = some v ∧ w1.frozen? ⟨w.heap.size + 2, 0, none⟩ = false := by
  obtain ⟨h1, h2, h3, h4, h5, h6⟩ := h
  have hou : OT u (w.heap.size + 3) v ss := own_same h4 (fun q hq => hk q (by have := (own_wi h4 q hq).1; omega))
  have hne : ∀ q, q < w.heap.size + 3 → w1.heap[q]? = u.heap[q]? := fun q hq => by
    have e1 := hg.block q (by simp; omega) (fun e => by have := (own_wi hou q e.symm).1; omega)
    rw [e1, heap_old _ _ (by omega)]
  have r2 : w1.heap[w.heap.size + 2]? = some (.cells #[v] 27 (0, 0)) := (hne _ (by omega)).trans ((hk _ (by omega)).trans h2)
  have hsz : u.heap.size ≤ w1.heap.size := by have := hg.size; simp at this; omega
  refine ⟨⟨?_, heap_setCell_same _ _ _ _ _ _ r2, ?_, ?_, by simp; omega, ?_⟩, by rw [cell_of_row _ _ _ _ _ _ r2]; rfl, frozen_of_row _ _ _ _ _ r2⟩
  · exact hF _ ((heap_setCell_other _ ⟨w.heap.size + 2, 0, none⟩ _ _ (show w.heap.size + 1 ≠ w.heap.size + 2 by omega)).trans (hne _ (by omega)))
  · exact (heap_setCell_other _ ⟨w.heap.size + 2, 0, none⟩ _ _ (show w.heap.size ≠ w.heap.size + 2 by omega)).trans ((hne _ (by omega)).trans ((hk _ (by omega)).trans h3))
  · exact own_same ho (fun q hq => heap_setCell_other _ ⟨w.heap.size + 2, 0, none⟩ _ _ (by have := (own_wi ho q hq).1; show q ≠ w.heap.size + 2; omega))
  · have hbu : Below w.heap.size w u := h6.trans (hb.mono (by omega))
    exact (pushT_bel hbu hou (by omega) hbu.size hg).setCell (p := ⟨w.heap.size + 2, 0, none⟩) (by show w.heap.size ≤ w.heap.size + 2; omega) _
theorem OT.slv {w : World} {lo : Nat} {v : Value} {ss : List ByteArray} (h : OT w lo v ss) : ∃ A c, v = .slice A ss.length c := h.op
theorem dnM_sm {s : ByteArray} (hs : s.size ≤ 1048576) : SmT (dnM s) := by
  have h1 : (dnM s).length = dnC s := by unfold dnM; exact dnL_len _ _
  have h2 := dnC_le s
  refine ⟨by omega, fun x hx => ?_⟩
  unfold dnM at hx
  have h3 := dnL_size (dn1 s) (dnC s) x hx
  have h4 := fR_size s 1
  unfold dn1 at h3
  omega
theorem de_ok {s : ByteArray} (hs : s.size ≤ 1048576) : (∀ x ∈ deL s, x.size ≤ maxLen) ∧ (deL s).length ≤ 1300000 := by
  have h := dnM_sm hs
  unfold deL
  split
  · exact ⟨fun x hx => max_1m (h.2 x hx), by have := h.1; omega⟩
  · exact ⟨(fun x hx => absurd hx (by simp)), (by simp)⟩
theorem de_no {s : ByteArray} (h : deO s = false) : deL s = [] := by simp [deL, h]
theorem de_yes {s : ByteArray} (h : deO s = true) : deL s = dnM s := by simp [deL, h]
def HnR (w : World) (t : ByteArray) (c : Nat) (iv : Value) (wr : World) : Prop := ∃ (j : Nat) (v : Value), j ≤ c ∧ iv = .int .i64 (j : Int) ∧ HnI (fun W => FrA W (w.heap.size + 1) (dnR t j)) w v (dnL t j) wr
set_option maxHeartbeats 8000000 in
set_option maxRecDepth 100000 in
theorem implDecodeHeap_any {s : ByteArray} (hs : s.size ≤ 1048576) {w : World} :
    Calls Try.prog 34 #[.string s] w (AnsH (mkB2 (deO s)) (deL s) w) := by
  have HW := Lib.hid (three_newH w (.cells #[.slice none 0 0] 27 (0, 0)) (.cells #[.string s] 96 (0, 0)) (.cells #[.slice none 0 0] 27 (0, 0)))
  have HN : Hid (∀ (W : World) (t : ByteArray) (m : Nat), t.size ≤ 1048576 → 1 ≤ m → m ≤ 8 → FrA W (w.heap.size + 1) t → Calls Try.prog 73 #[.pointer (some ⟨w.heap.size + 1, 0, none⟩), .int .i64 m] W (FrP (w.heap.size + 1) (.int .i64 (nV t m)) (fR t m) W)) := Lib.hid (fun W t m h1 h2 h3 h4 => frNumber_any h1 h2 h3 h4)
  have HY : Hid (∀ (W : World) (t : ByteArray) (m : Nat), t.size ≤ 1048576 → m ≤ 1048576 → FrA W (w.heap.size + 1) t → Calls Try.prog 74 #[.pointer (some ⟨w.heap.size + 1, 0, none⟩), .int .i64 m] W (FrP (w.heap.size + 1) (.string (fT t m)) (fR t m) W)) := Lib.hid (fun W t m h1 h2 h4 => frBytes_any h1 h2 h4)
  have HC : Hid (nV s 1 = (dnC s : Int)) := Lib.hid (by have := nV_in s 1; unfold dnC; omega)
  have hC2 := dnC_le s
  have z1 := fR_size s 1
  go_enter Try.func34, Try.ntmps34
  go_wp2_with (refine wpList_store_last rfl 96 (.tmp 4) (.tmp 7) rfl #[.string s] _ 96 rfl rfl (by kernel_rfl) rfl (by rfl) ?_)
  generalize (((w.alloc (.cells #[.slice none 0 0] 27)).alloc (.cells #[.string s] 96)).alloc (.cells #[.slice none 0 0] 27)) = w0 at *
  refine (HN.out w0 s 1 hs (by omega) (by omega) HW.out.2.1).mono ?_
  rintro e w4 ⟨rfl, f1, k1, y1, b1⟩
  rw [HC.out]
  have HI : Hid (HnI (fun W => FrA W (w.heap.size + 1) (dn1 s)) w (.slice none 0 0) [] w4) := Lib.hid ⟨f1, (k1 _ (by omega)).trans HW.out.2.2.1, (k1 _ (by omega)).trans HW.out.1, ot_mt _ _, by rw [y1, HW.out.2.2.2.1]; omega, HW.out.2.2.2.2.trans (b1.mono (Nat.le_succ _))⟩
  clear f1 k1 y1 b1 HW
  have hd3 : (dn1 s).size ≤ 1048576 := by unfold dn1; omega
  have HE : Hid (dnM s = dnL (dn1 s) (dnC s)) := Lib.hid (by unfold dnM; rfl)
  have HSM := Lib.hid (dnM_sm hs)
  have HO1 := Lib.hid (deO_prog s)
  have HO2 : Hid (deO s = false → deL s = []) := Lib.hid de_no
  have HO3 : Hid (deO s = true → deL s = dnM s) := Lib.hid de_yes
  clear z1 HC
  generalize deO s = ok at *
  generalize deL s = DD at *
  generalize dnM s = MM at *
  generalize dnC s = c at *
  generalize dn1 s = t at *
  go_wp2_with fail
  go_loopw [9] (fun iv wr => HnR w t c iv wr) (fun iv _ => c - (intOf iv).toNat)
  case atStart => exact ⟨0, _, Nat.zero_le _, rfl, HI.out⟩
  case round =>
    obtain ⟨j, v, hj, rfl, hh⟩ := hrel
    have HH := Lib.hid hh; clear hh
    by_cases hlt : j < c
    · have dk : decide ((j : Int) < (c : Int)) = true := decide_eq_true (by omega)
      go_upto_region 5 with fail
      obtain ⟨VA, vc, rfl⟩ := OT.op HH.out.2.2.2.1
      have HO := Lib.hid HH.out.2.2.2.1
      have hY := HH.out.2.2.2.2.1
      have HQ : Hid (∀ X : World, X.heap[w.heap.size + 2]? = wr.heap[w.heap.size + 2]? → X.cell? ⟨w.heap.size + 2, 0, none⟩ = some (.slice VA (dnL t j).length vc)) := Lib.hid (fun X hX => by rw [cell_of_row _ _ _ _ _ _ (hX.trans HH.out.2.1)]; rfl)
      have F0 : Hid (FrA wr.drew (w.heap.size + 1) (dnR t j)) := Lib.hid HH.out.1
      have K0 : Hid (∀ q, q ≠ w.heap.size + 1 → wr.drew.heap[q]? = wr.heap[q]?) := Lib.hid (fun q _ => rfl)
      have Y0 : Hid (wr.drew.heap.size = wr.heap.size) := Lib.hid rfl
      have B0 : Hid (Below (w.heap.size + 1) wr wr.drew) := Lib.hid (Below.refl _ _).drew
      have hz0 := dnR_size t j
      have hz1 := fR_size (dnR t j) 1
      have hN1 := nV1_lt (dnR t j)
      have hN2 := nV_in (dnR t j) 1
      have C1 : Hid (∀ X, FrA X (w.heap.size + 1) (dnR t j) → _) := Lib.hid (fun X hX => HN.out X (dnR t j) 1 (by omega) (by omega) (by omega) hX)
      have en : nV (dnR t j) 1 = (pnN (dnR t j) : Int) := by unfold pnN; omega
      have C2 : Hid (∀ X, FrA X (w.heap.size + 1) (fR (dnR t j) 1) → _) := Lib.hid (fun X hX => HY.out X (fR (dnR t j) 1) (pnN (dnR t j)) (by omega) (by omega) hX)
      rw [en] at C1
      have HE1 : Hid (dnR t (j + 1) = fR (fR (dnR t j) 1) (pnN (dnR t j)) ∧ dnL t (j + 1) = dnL t j ++ [fT (fR (dnR t j) 1) (pnN (dnR t j))]) := Lib.hid ⟨by rw [dnR]; unfold pnR; rfl, by rw [dnL]; unfold pnM; rfl⟩
      have HL1 : Hid (j + 1 ≤ c) := Lib.hid hlt
      have HDL : Hid ((dnL t j).length = j) := Lib.hid (dnL_len t j)
      have HFP : Hid (∀ X, FrA X (w.heap.size + 1) (fR (fR (dnR t j) 1) (pnN (dnR t j))) → ∀ W : World, W.heap[w.heap.size + 1]? = X.heap[w.heap.size + 1]? → FrA W (w.heap.size + 1) (fR (fR (dnR t j) 1) (pnN (dnR t j)))) := Lib.hid (fun X hX W hW => by unfold FrA; rw [hW]; exact hX)
      clear hz0 hz1 hN1 hN2 en HN HY hd3
      generalize pnN (dnR t j) = n at *
      generalize fT (fR (dnR t j) 1) n = z at *
      generalize fR (fR (dnR t j) 1) n = T2 at *
      generalize fR (dnR t j) 1 = T1 at *
      refine wp_region_held_drew (S := (fun _ => True)) (by kernel_rfl) (trivial) (fun hHeld => ?_)
      refine held_yes 0 (some 11) rfl rfl (by kernel_rfl) (by kernel_rfl) (by kernel_rfl) (fun _ _ _ h => h) (by kernel_rfl) hHeld (v := ?_) (fun wz hSw => ?_) ?_
      rotate_left 1
      · (try dsimp only at hSw); go_simp; (try with_reducible rfl)
      try simp only [Act.put, List.setIfInBounds_toArray, List.set_cons_zero, List.set_cons_succ]
      refine wpAnyH_ready (rs := [1, 2]) (by kernel_rfl) (by simp) ?_
      refine AllReadyH.cons rfl (fun K hK => ?_) (AllReadyH.cons rfl (fun K hK => ?_) AllReadyH.nil)
      · skip
        have qld := HQ.out _ (rfl)
        go_simp
        refine hK.out _ _ trivial (fun hHeld => ?_)
        clear hK K qld
        try simp only [Act.put, List.setIfInBounds_toArray, List.set_cons_zero, List.set_cons_succ]
        refine wpAnyH_ready (rs := [2]) (by kernel_rfl) (by simp) ?_
        refine AllReadyH.cons rfl (fun K hK => ?_) AllReadyH.nil
        go_simp
        go_at_call 73
        go_fit (C1.out _ F0.out)
        rintro e u1 ⟨rfl, ff, kk, yy, bb⟩
        have F1 := Lib.hid ff; have K1 := Lib.hid (fun q (hq : q ≠ w.heap.size + 1) => (kk q hq).trans (K0.out q hq)); have Y1 := Lib.hid (yy.trans Y0.out); have B1 := Lib.hid (B0.out.trans bb)
        have KH1 := Lib.hid (K1.out (w.heap.size + 2) (by omega))
        clear ff kk yy bb
        refine hK.out _ _ trivial (fun hHeld => ?_)
        clear hK K
        try simp only [Act.put, List.setIfInBounds_toArray, List.set_cons_zero, List.set_cons_succ]
        refine wpAnyH_ready (rs := [3]) (by kernel_rfl) (by simp) ?_
        refine AllReadyH.cons rfl (fun K hK => ?_) AllReadyH.nil
        go_simp
        go_at_call 74
        go_fit (C2.out _ F1.out)
        rintro e u2 ⟨rfl, ff, kk, yy, bb⟩
        have F2 := Lib.hid ff; have K2 := Lib.hid (fun q (hq : q ≠ w.heap.size + 1) => (kk q hq).trans (K1.out q hq)); have Y2 := Lib.hid (yy.trans Y1.out); have B2 := Lib.hid (B1.out.trans bb)
        have KH2 := Lib.hid (K2.out (w.heap.size + 2) (by omega))
        clear ff kk yy bb
        refine hK.out _ _ trivial (fun hHeld => ?_)
        clear hK K
        try simp only [Act.put, List.setIfInBounds_toArray, List.set_cons_zero, List.set_cons_succ]
        refine wpAnyH_ready (rs := [4]) (by kernel_rfl) (by simp) ?_
        refine AllReadyH.cons rfl (fun K hK => ?_) AllReadyH.nil
        have KH3 : Hid ((u2.alloc (.cells #[.string z] 9)).heap[w.heap.size + 2]? = wr.heap[w.heap.size + 2]?) := Lib.hid ((heap_old _ _ (by have := Y2.out; omega)).trans KH2.out)
        go_simp
        refine hK.out _ _ trivial (fun hHeld => ?_)
        clear hK K
        try simp only [Act.put, List.setIfInBounds_toArray, List.set_cons_zero, List.set_cons_succ]
        refine wpAnyH_ready (rs := [5]) (by kernel_rfl) (by simp) ?_
        refine AllReadyH.cons rfl (fun K hK => ?_) AllReadyH.nil
        refine wp_pushdT (W := u2) (v := .slice VA (dnL t j).length vc) (lo := w.heap.size + 3) (xs := dnL t j) (x := z) (some 16) (by kernel_rfl) (.tmp 12) (.tmp 15) rfl rfl rfl rfl rfl (own_same HO.out (fun q hq => K2.out q (by have := (own_wi HO.out q hq).1; omega))) (by have := Y2.out; omega) (by have := HDL.out; omega) ?_
        intro g4 cap4 w4 ow4 gr4 lt4
        obtain ⟨st, m1, m2⟩ := HnI.step (F' := (fun W => FrA W (w.heap.size + 1) T2)) HH.out (HFP.out _ F2.out) K2.out Y2.out B2.out ow4 gr4
        have ST := Lib.hid st; clear st ow4 gr4
        refine hK.out _ _ trivial (fun hHeld => ?_)
        clear hK K
        try simp only [Act.put, List.setIfInBounds_toArray, List.set_cons_zero, List.set_cons_succ]
        refine held_yes 6 (some 17) rfl rfl (by kernel_rfl) (by kernel_rfl) (by kernel_rfl) (fun _ _ _ h => h) (by kernel_rfl) hHeld (v := ?_) (fun wz hSw => ?_) ?_
        rotate_left 1
        · (try dsimp only at hSw); go_simp; (try with_reducible rfl)
        try simp only [Act.put, List.setIfInBounds_toArray, List.set_cons_zero, List.set_cons_succ]
        refine wpAnyH_ready (rs := [7]) (by kernel_rfl) (by simp) ?_
        refine AllReadyH.cons rfl (fun K hK => ?_) AllReadyH.nil
        go_simp
        refine hK.out _ _ trivial (fun hHeld => ?_)
        clear hK K m1 m2 hHeld
        try simp only [Act.put, List.setIfInBounds_toArray, List.set_cons_zero, List.set_cons_succ]
        refine wpAnyH_done (by kernel_rfl) ?_ _
        try simp only [Exit.then]
        go_wp2_with fail
        go_roundw
        case rel => exact ⟨j + 1, _, HL1.out, by go_num, by rw [HE1.out.1, HE1.out.2]; exact ST.out⟩
        case measure => simp [intOf]; omega
      · skip
        go_simp
        go_at_call 73
        go_fit (C1.out _ F0.out)
        rintro e u1 ⟨rfl, ff, kk, yy, bb⟩
        have F1 := Lib.hid ff; have K1 := Lib.hid (fun q (hq : q ≠ w.heap.size + 1) => (kk q hq).trans (K0.out q hq)); have Y1 := Lib.hid (yy.trans Y0.out); have B1 := Lib.hid (B0.out.trans bb)
        have KH1 := Lib.hid (K1.out (w.heap.size + 2) (by omega))
        clear ff kk yy bb
        refine hK.out _ _ trivial (fun hHeld => ?_)
        clear hK K
        try simp only [Act.put, List.setIfInBounds_toArray, List.set_cons_zero, List.set_cons_succ]
        refine wpAnyH_ready (rs := [1, 3]) (by kernel_rfl) (by simp) ?_
        refine AllReadyH.cons rfl (fun K hK => ?_) (AllReadyH.cons rfl (fun K hK => ?_) AllReadyH.nil)
        · skip
          have qld := HQ.out _ (KH1.out)
          go_simp
          refine hK.out _ _ trivial (fun hHeld => ?_)
          clear hK K qld
          try simp only [Act.put, List.setIfInBounds_toArray, List.set_cons_zero, List.set_cons_succ]
          refine wpAnyH_ready (rs := [3]) (by kernel_rfl) (by simp) ?_
          refine AllReadyH.cons rfl (fun K hK => ?_) AllReadyH.nil
          go_simp
          go_at_call 74
          go_fit (C2.out _ F1.out)
          rintro e u2 ⟨rfl, ff, kk, yy, bb⟩
          have F2 := Lib.hid ff; have K2 := Lib.hid (fun q (hq : q ≠ w.heap.size + 1) => (kk q hq).trans (K1.out q hq)); have Y2 := Lib.hid (yy.trans Y1.out); have B2 := Lib.hid (B1.out.trans bb)
          have KH2 := Lib.hid (K2.out (w.heap.size + 2) (by omega))
          clear ff kk yy bb
          refine hK.out _ _ trivial (fun hHeld => ?_)
          clear hK K
          try simp only [Act.put, List.setIfInBounds_toArray, List.set_cons_zero, List.set_cons_succ]
          refine wpAnyH_ready (rs := [4]) (by kernel_rfl) (by simp) ?_
          refine AllReadyH.cons rfl (fun K hK => ?_) AllReadyH.nil
          have KH3 : Hid ((u2.alloc (.cells #[.string z] 9)).heap[w.heap.size + 2]? = wr.heap[w.heap.size + 2]?) := Lib.hid ((heap_old _ _ (by have := Y2.out; omega)).trans KH2.out)
          go_simp
          refine hK.out _ _ trivial (fun hHeld => ?_)
          clear hK K
          try simp only [Act.put, List.setIfInBounds_toArray, List.set_cons_zero, List.set_cons_succ]
          refine wpAnyH_ready (rs := [5]) (by kernel_rfl) (by simp) ?_
          refine AllReadyH.cons rfl (fun K hK => ?_) AllReadyH.nil
          refine wp_pushdT (W := u2) (v := .slice VA (dnL t j).length vc) (lo := w.heap.size + 3) (xs := dnL t j) (x := z) (some 16) (by kernel_rfl) (.tmp 12) (.tmp 15) rfl rfl rfl rfl rfl (own_same HO.out (fun q hq => K2.out q (by have := (own_wi HO.out q hq).1; omega))) (by have := Y2.out; omega) (by have := HDL.out; omega) ?_
          intro g4 cap4 w4 ow4 gr4 lt4
          obtain ⟨st, m1, m2⟩ := HnI.step (F' := (fun W => FrA W (w.heap.size + 1) T2)) HH.out (HFP.out _ F2.out) K2.out Y2.out B2.out ow4 gr4
          have ST := Lib.hid st; clear st ow4 gr4
          refine hK.out _ _ trivial (fun hHeld => ?_)
          clear hK K
          try simp only [Act.put, List.setIfInBounds_toArray, List.set_cons_zero, List.set_cons_succ]
          refine held_yes 6 (some 17) rfl rfl (by kernel_rfl) (by kernel_rfl) (by kernel_rfl) (fun _ _ _ h => h) (by kernel_rfl) hHeld (v := ?_) (fun wz hSw => ?_) ?_
          rotate_left 1
          · (try dsimp only at hSw); go_simp; (try with_reducible rfl)
          try simp only [Act.put, List.setIfInBounds_toArray, List.set_cons_zero, List.set_cons_succ]
          refine wpAnyH_ready (rs := [7]) (by kernel_rfl) (by simp) ?_
          refine AllReadyH.cons rfl (fun K hK => ?_) AllReadyH.nil
          go_simp
          refine hK.out _ _ trivial (fun hHeld => ?_)
          clear hK K m1 m2 hHeld
          try simp only [Act.put, List.setIfInBounds_toArray, List.set_cons_zero, List.set_cons_succ]
          refine wpAnyH_done (by kernel_rfl) ?_ _
          try simp only [Exit.then]
          go_wp2_with fail
          go_roundw
          case rel => exact ⟨j + 1, _, HL1.out, by go_num, by rw [HE1.out.1, HE1.out.2]; exact ST.out⟩
          case measure => simp [intOf]; omega
        · skip
          go_simp
          go_at_call 74
          go_fit (C2.out _ F1.out)
          rintro e u2 ⟨rfl, ff, kk, yy, bb⟩
          have F2 := Lib.hid ff; have K2 := Lib.hid (fun q (hq : q ≠ w.heap.size + 1) => (kk q hq).trans (K1.out q hq)); have Y2 := Lib.hid (yy.trans Y1.out); have B2 := Lib.hid (B1.out.trans bb)
          have KH2 := Lib.hid (K2.out (w.heap.size + 2) (by omega))
          clear ff kk yy bb
          refine hK.out _ _ trivial (fun hHeld => ?_)
          clear hK K
          try simp only [Act.put, List.setIfInBounds_toArray, List.set_cons_zero, List.set_cons_succ]
          refine wpAnyH_ready (rs := [1, 4]) (by kernel_rfl) (by simp) ?_
          refine AllReadyH.cons rfl (fun K hK => ?_) (AllReadyH.cons rfl (fun K hK => ?_) AllReadyH.nil)
          · skip
            have qld := HQ.out _ (KH2.out)
            go_simp
            refine hK.out _ _ trivial (fun hHeld => ?_)
            clear hK K qld
            try simp only [Act.put, List.setIfInBounds_toArray, List.set_cons_zero, List.set_cons_succ]
            refine wpAnyH_ready (rs := [4]) (by kernel_rfl) (by simp) ?_
            refine AllReadyH.cons rfl (fun K hK => ?_) AllReadyH.nil
            have KH3 : Hid ((u2.alloc (.cells #[.string z] 9)).heap[w.heap.size + 2]? = wr.heap[w.heap.size + 2]?) := Lib.hid ((heap_old _ _ (by have := Y2.out; omega)).trans KH2.out)
            go_simp
            refine hK.out _ _ trivial (fun hHeld => ?_)
            clear hK K
            try simp only [Act.put, List.setIfInBounds_toArray, List.set_cons_zero, List.set_cons_succ]
            refine wpAnyH_ready (rs := [5]) (by kernel_rfl) (by simp) ?_
            refine AllReadyH.cons rfl (fun K hK => ?_) AllReadyH.nil
            refine wp_pushdT (W := u2) (v := .slice VA (dnL t j).length vc) (lo := w.heap.size + 3) (xs := dnL t j) (x := z) (some 16) (by kernel_rfl) (.tmp 12) (.tmp 15) rfl rfl rfl rfl rfl (own_same HO.out (fun q hq => K2.out q (by have := (own_wi HO.out q hq).1; omega))) (by have := Y2.out; omega) (by have := HDL.out; omega) ?_
            intro g4 cap4 w4 ow4 gr4 lt4
            obtain ⟨st, m1, m2⟩ := HnI.step (F' := (fun W => FrA W (w.heap.size + 1) T2)) HH.out (HFP.out _ F2.out) K2.out Y2.out B2.out ow4 gr4
            have ST := Lib.hid st; clear st ow4 gr4
            refine hK.out _ _ trivial (fun hHeld => ?_)
            clear hK K
            try simp only [Act.put, List.setIfInBounds_toArray, List.set_cons_zero, List.set_cons_succ]
            refine held_yes 6 (some 17) rfl rfl (by kernel_rfl) (by kernel_rfl) (by kernel_rfl) (fun _ _ _ h => h) (by kernel_rfl) hHeld (v := ?_) (fun wz hSw => ?_) ?_
            rotate_left 1
            · (try dsimp only at hSw); go_simp; (try with_reducible rfl)
            try simp only [Act.put, List.setIfInBounds_toArray, List.set_cons_zero, List.set_cons_succ]
            refine wpAnyH_ready (rs := [7]) (by kernel_rfl) (by simp) ?_
            refine AllReadyH.cons rfl (fun K hK => ?_) AllReadyH.nil
            go_simp
            refine hK.out _ _ trivial (fun hHeld => ?_)
            clear hK K m1 m2 hHeld
            try simp only [Act.put, List.setIfInBounds_toArray, List.set_cons_zero, List.set_cons_succ]
            refine wpAnyH_done (by kernel_rfl) ?_ _
            try simp only [Exit.then]
            go_wp2_with fail
            go_roundw
            case rel => exact ⟨j + 1, _, HL1.out, by go_num, by rw [HE1.out.1, HE1.out.2]; exact ST.out⟩
            case measure => simp [intOf]; omega
          · skip
            have KH3 : Hid ((u2.alloc (.cells #[.string z] 9)).heap[w.heap.size + 2]? = wr.heap[w.heap.size + 2]?) := Lib.hid ((heap_old _ _ (by have := Y2.out; omega)).trans KH2.out)
            go_simp
            refine hK.out _ _ trivial (fun hHeld => ?_)
            clear hK K
            try simp only [Act.put, List.setIfInBounds_toArray, List.set_cons_zero, List.set_cons_succ]
            refine wpAnyH_ready (rs := [1]) (by kernel_rfl) (by simp) ?_
            refine AllReadyH.cons rfl (fun K hK => ?_) AllReadyH.nil
            have qld := HQ.out _ (KH3.out)
            go_simp
            refine hK.out _ _ trivial (fun hHeld => ?_)
            clear hK K qld
            try simp only [Act.put, List.setIfInBounds_toArray, List.set_cons_zero, List.set_cons_succ]
            refine wpAnyH_ready (rs := [5]) (by kernel_rfl) (by simp) ?_
            refine AllReadyH.cons rfl (fun K hK => ?_) AllReadyH.nil
            refine wp_pushdT (W := u2) (v := .slice VA (dnL t j).length vc) (lo := w.heap.size + 3) (xs := dnL t j) (x := z) (some 16) (by kernel_rfl) (.tmp 12) (.tmp 15) rfl rfl rfl rfl rfl (own_same HO.out (fun q hq => K2.out q (by have := (own_wi HO.out q hq).1; omega))) (by have := Y2.out; omega) (by have := HDL.out; omega) ?_
            intro g4 cap4 w4 ow4 gr4 lt4
            obtain ⟨st, m1, m2⟩ := HnI.step (F' := (fun W => FrA W (w.heap.size + 1) T2)) HH.out (HFP.out _ F2.out) K2.out Y2.out B2.out ow4 gr4
            have ST := Lib.hid st; clear st ow4 gr4
            refine hK.out _ _ trivial (fun hHeld => ?_)
            clear hK K
            try simp only [Act.put, List.setIfInBounds_toArray, List.set_cons_zero, List.set_cons_succ]
            refine held_yes 6 (some 17) rfl rfl (by kernel_rfl) (by kernel_rfl) (by kernel_rfl) (fun _ _ _ h => h) (by kernel_rfl) hHeld (v := ?_) (fun wz hSw => ?_) ?_
            rotate_left 1
            · (try dsimp only at hSw); go_simp; (try with_reducible rfl)
            try simp only [Act.put, List.setIfInBounds_toArray, List.set_cons_zero, List.set_cons_succ]
            refine wpAnyH_ready (rs := [7]) (by kernel_rfl) (by simp) ?_
            refine AllReadyH.cons rfl (fun K hK => ?_) AllReadyH.nil
            go_simp
            refine hK.out _ _ trivial (fun hHeld => ?_)
            clear hK K m1 m2 hHeld
            try simp only [Act.put, List.setIfInBounds_toArray, List.set_cons_zero, List.set_cons_succ]
            refine wpAnyH_done (by kernel_rfl) ?_ _
            try simp only [Exit.then]
            go_wp2_with fail
            go_roundw
            case rel => exact ⟨j + 1, _, HL1.out, by go_num, by rw [HE1.out.1, HE1.out.2]; exact ST.out⟩
            case measure => simp [intOf]; omega
    · obtain rfl : j = c := by omega
      have dk : decide ((j : Int) < (j : Int)) = false := decide_eq_false (by omega)
      have HMe : Hid (MM = dnL t j) := Lib.hid HE.out
      have HOt : Hid (OT wr (w.heap.size + 3) v MM) := Lib.hid (by rw [HMe.out]; exact HH.out.2.2.2.1)
      obtain ⟨VA, vc, rfl⟩ := HOt.out.op
      have R0 := Lib.hid HH.out.2.2.1
      have R2 := Lib.hid HH.out.2.1
      have HBw := Lib.hid HH.out.2.2.2.2.2
      have Z0 := Lib.hid HH.out.2.2.2.2.1
      have HI := Lib.hid (fun x (hx : x ∈ MM) => max_1m (HSM.out.2 x hx))
      have HCv := Lib.hid (implValidHeap_any (HOt.out.rit HI.out) (Nat.le_refl _) HSM.out)
      clear HE HMe HH
      go_wp2_with (refine wpList_load_row rfl 27 (.tmp 5) rfl _ rfl 27 _ (0, 0) _ R2.out Try.underlying27 rfl (by kernel_rfl) ?_)
      refine HCv.out.mono ?_
      rintro e w5 ⟨rfl, g⟩
      have R5 := Lib.hid ((g.block _ (by have := Z0.out; omega)).trans R0.out)
      have T5 := Lib.hid ((g.block _ (by have := Z0.out; omega)).trans R2.out)
      have O5 : Hid (OT w5 (w.heap.size + 3) (.slice VA MM.length vc) MM) := Lib.hid (own_bel HOt.out g)
      have B5 := Lib.hid (HBw.out.trans (g.mono HBw.out.size))
      have Z5 : Hid (w.heap.size + 3 ≤ w5.heap.size) := Lib.hid (by have := Z0.out; have := g.size; omega)
      clear g HCv
      have HCe := Lib.hid (implEncodeHeap_any (O5.out.rit HI.out) (Nat.le_refl _) HSM.out)
      cases hok : hpOk MM
      · have Hf : Hid (ok = false) := Lib.hid (by rw [HO1.out, hok]; rfl)
        have Hg := Lib.hid (HO2.out Hf.out)
        clear hok
        go_wp2_with (refine wpList_store_row rfl 27 (.tmp 2) (.tmp 28) rfl w.heap.size #[.slice none 0 0] rfl rfl 27 _ R5.out (infoHs _ _ _) rfl (oneH _ _ _) ?_)
        refine bodyPost_ret (v := .tuple #[.agg #[.slice none 0 0], .bool false]) ?_ rfl ?_
        · exact results_cell_row2 rfl _ _ w.heap.size 27 _ (0, 0) _ _ rfl rfl (setRow_heap _ _ _ _ _ _ R5.out) Try.underlying27 rfl (by kernel_rfl)
        · rw [Hf.out, Hg.out]; exact AnsH.zero (mk := mkB2 false) (Nat.le_refl _) B5.out
      have Hok := Lib.hid hok
      clear hok
      have q5 : w5.cell? ⟨w.heap.size + 1 + 1, 0, none⟩ = some (.slice VA MM.length vc) := by rw [cell_of_row _ _ _ _ _ _ (show w5.heap[w.heap.size + 1 + 1]? = _ from T5.out)]; rfl
      go_wp2_with fail
      clear q5
      refine HCe.out.mono ?_
      rintro e w6 ⟨rfl, g⟩
      have R6 := Lib.hid ((g.block _ (by have := Z5.out; omega)).trans R5.out)
      have T6 := Lib.hid ((g.block _ (by have := Z5.out; omega)).trans T5.out)
      have O6 : Hid (OT w6 (w.heap.size + 3) (.slice VA MM.length vc) MM) := Lib.hid (own_bel O5.out g)
      have B6 := Lib.hid (B5.out.trans (g.mono B5.out.size))
      clear g HCe
      by_cases he : heV MM = s
      rotate_left
      · have Hf : Hid (ok = false) := Lib.hid (by rw [HO1.out, Hok.out, decide_eq_false he]; rfl)
        have Hg := Lib.hid (HO2.out Hf.out)
        have x1 := bytes_neH he
        clear he
        go_wp2_with (refine wpList_store_row rfl 27 (.tmp 2) (.tmp 28) rfl w.heap.size #[.slice none 0 0] rfl rfl 27 _ R6.out (infoHs _ _ _) rfl (oneH _ _ _) ?_)
        refine bodyPost_ret (v := .tuple #[.agg #[.slice none 0 0], .bool false]) ?_ rfl ?_
        · exact results_cell_row2 rfl _ _ w.heap.size 27 _ (0, 0) _ _ rfl rfl (setRow_heap _ _ _ _ _ _ R6.out) Try.underlying27 rfl (by kernel_rfl)
        · rw [Hf.out, Hg.out]; exact AnsH.zero (mk := mkB2 false) (Nat.le_refl _) B6.out
      have Hf : Hid (ok = true) := Lib.hid (by rw [HO1.out, Hok.out, decide_eq_true he]; rfl)
      have Hg := Lib.hid (HO3.out Hf.out)
      have x1 : ((heV MM).toList == s.toList) = true := by rw [he]; simp
      have x2 : (heV MM).toList = s.toList := by rw [he]
      clear he
      go_wp2_with (first | (refine wpList_load_row rfl 27 (.tmp 5) rfl _ rfl 27 _ (0, 0) _ T6.out Try.underlying27 rfl (by kernel_rfl) ?_) | (refine wpList_store_row rfl 27 (.tmp 2) (.tmp 29) rfl w.heap.size #[.slice VA MM.length vc] rfl rfl 27 _ R6.out (infoHs _ _ _) rfl (oneH _ _ _) ?_))
      refine bodyPost_ret (v := .tuple #[.agg #[.slice VA MM.length vc], .bool true]) ?_ rfl ?_
      · exact results_cell_row2 rfl _ _ w.heap.size 27 _ (0, 0) _ _ rfl rfl (setRow_heap _ _ _ _ _ _ R6.out) Try.underlying27 rfl (by kernel_rfl)
      · rw [Hf.out, Hg.out]; exact AnsH.end (mk := mkB2 true) (lo := w.heap.size + 3) O6.out (by omega) (Nat.le_refl _) B6.out
end Go.Proofs.Ytabnglimchjgpaa
