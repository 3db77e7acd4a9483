/- Contract of the program's function that makes a range's selection. No statement is proved here. -/
import Derived.Test.YtbghekgghiamcaaRngS
import Derived.Test.YtbghekgghiamcaaFoF
namespace Go.Proofs.Ytbghekgghiamcaa
open Go.RowKit
set_option linter.unusedVariables false
set_option maxHeartbeats 4000000 in
set_option maxRecDepth 100000 in
theorem implRange_any {B : Nat} {w : World} {A1 A2 : Option Addr} {xs ys : List Int} (h1 : Ri B w (.slice A1 xs.length xs.length) xs) (h2 : Ri B w (.slice A2 ys.length ys.length) ys) (hB : B ≤ w.heap.size) (hs : xs.length ≤ 1048576) (hs2 : ys.length ≤ 1048576) :
    Calls Try.prog 10 #[.slice A1 xs.length xs.length, .slice A2 ys.length ys.length] w (RgAns xs ys w) := by
  have H1 := Lib.hid h1; have H2 := Lib.hid h2
  obtain ⟨A1', c1, hv1, hl1, hm1, hx1⟩ := h1
  obtain ⟨A2', c2, hv2, hl2, hm2, hx2⟩ := h2
  have Hx1 : Hid (∀ k (hk : k < xs.length), ∃ b o, A1 = some ⟨b, o, none⟩ ∧ b < B ∧ w.cell? ⟨b, o + k, none⟩ = some (.int .i64 xs[k])) := Lib.hid (fun k hk => by
    obtain ⟨b, o, hA, hb, hc, _⟩ := hx1 k hk
    have e1 : A1' = A1 := by injection hv1 with h1 h2 h3; exact h1.symm
    exact ⟨b, o, e1 ▸ hA, hb, hc⟩)
  have Hx2 : Hid (∀ k (hk : k < ys.length), ∃ b o, A2 = some ⟨b, o, none⟩ ∧ b < B ∧ w.cell? ⟨b, o + k, none⟩ = some (.int .i64 ys[k])) := Lib.hid (fun k hk => by
    obtain ⟨b, o, hA, hb, hc, _⟩ := hx2 k hk
    have e1 : A2' = A2 := by injection hv2 with h1 h2 h3; exact h1.symm
    exact ⟨b, o, e1 ▸ hA, hb, hc⟩)
  clear hx1 hx2 hv1 hv2 hl1 hl2 hm1 hm2 c1 c2 A1' A2'
  have Hs : Hid (xs.length ≤ 1048576 ∧ ys.length ≤ 1048576) := Lib.hid ⟨hs, hs2⟩
  have HB0 : Hid (Below w.heap.size w (w.alloc (.cells #[.int .i64 0, .slice none 0 0, .slice none 0 0, .slice none 0 0, .slice none 0 0, .slice none 0 0] 25))) := Lib.hid ((Below.refl _ w).alloc (Nat.le_refl _) _)
  have Hz0 : Hid ((w.alloc (.cells #[.int .i64 0, .slice none 0 0, .slice none 0 0, .slice none 0 0, .slice none 0 0, .slice none 0 0] 25)).heap.size = w.heap.size + 1) := Lib.hid (by simp)
  have Hr0 : Hid ((w.alloc (.cells #[.int .i64 0, .slice none 0 0, .slice none 0 0, .slice none 0 0, .slice none 0 0, .slice none 0 0] 25)).heap[w.heap.size]? = some (.cells #[.int .i64 0, .slice none 0 0, .slice none 0 0, .slice none 0 0, .slice none 0 0, .slice none 0 0] 25 (0, 0))) := Lib.hid (heap_alloc_new w _)
  have Hi9 : Hid ((Try.prog.info? 25).map (·.size) = some (#[.int .i64 0, .slice none 0 0, .slice none 0 0, .slice none 0 0, .slice none 0 0, .slice none 0 0] : Array Value).size) := Lib.hid (by kernel_rfl)
  have H19 : Hid ((#[.int .i64 0, .slice none 0 0, .slice none 0 0, .slice none 0 0, .slice none 0 0, .slice none 0 0] : Array Value).all (·.oneCell') = true) := Lib.hid (by simp [Value.oneCell'])
  by_cases hlen : xs.length = ys.length
  rotate_left
  · have Hf : Hid (rgOk xs ys = false) := Lib.hid (rgOk_len hlen)
    have hlen2 : ((xs.length : Int) == (ys.length : Int)) = false := by simp; omega
    have hlen3 : ((xs.length : Int) != (ys.length : Int)) = true := by simp; omega
    have hlen4 : ¬ (xs.length : Int) = (ys.length : Int) := by omega
    go_enter Try.func10, Try.ntmps10
    go_wp2_with (refine wpList_store_row rfl 25 (.tmp 4) (.tmp 13) rfl w.heap.size #[.int .i64 0, .slice none 0 0, .slice none 0 0, .slice none 0 0, .slice none 0 0, .slice none 0 0] rfl rfl 25 _ Hr0.out Hi9.out rfl H19.out ?_)
    refine bodyPost_ret (v := .tuple #[.agg #[.int .i64 0, .slice none 0 0, .slice none 0 0, .slice none 0 0, .slice none 0 0, .slice none 0 0], .bool false]) ?_ ?_ ?_
    · exact results_cell_row2 rfl _ _ w.heap.size 25 _ (0, 0) _ _ rfl rfl (setRow_heap _ _ _ _ _ _ Hr0.out) Try.underlying25 rfl (by kernel_rfl)
    · rfl
    · exact rg_no Hf.out (below_setRow HB0.out (Nat.le_refl _) _)
  have hlen4 : (xs.length : Int) = (ys.length : Int) := by omega
  have Hlen := Lib.hid hlen; clear hlen
  go_enter Try.func10, Try.ntmps10
  go_wp2_with fail
  generalize (w.alloc (.cells #[.int .i64 0, .slice none 0 0, .slice none 0 0, .slice none 0 0, .slice none 0 0, .slice none 0 0] 25)) = W0 at *
  refine (clone_any (H1.out.at hB HB0.out) (Nat.le_refl _) hs).mono ?_
  rintro e W1 ⟨v0, rfl, o0, g⟩
  have HB1 : Hid (Below w.heap.size w W1) := Lib.hid (HB0.out.trans (g.mono HB0.out.size))
  have Hz1 : Hid (w.heap.size < W1.heap.size) := Lib.hid (by have := Hz0.out; have := g.size; omega)
  have Hr1 : Hid (W1.heap[w.heap.size]? = some (.cells #[.int .i64 0, .slice none 0 0, .slice none 0 0, .slice none 0 0, .slice none 0 0, .slice none 0 0] 25 (0, 0))) := Lib.hid ((g.block _ (by have := Hz0.out; omega)).trans Hr0.out)
  have HO0 : Hid (OI W1 (w.heap.size + 1) v0 xs) := Lib.hid (Hz0.out ▸ o0)
  clear o0 g
  obtain ⟨E0, e0, he0⟩ := HO0.out.sl
  subst he0
  have HA0 := Lib.hid (Acc3.start W1 3 (.slice E0 xs.length e0))
  go_wp2_with fail
  generalize hV0 : (W1.alloc (.cells #[.int .i64 3, .slice E0 xs.length e0, .slice none 0 0, .slice none 0 0, .slice none 0 0, .slice none 0 0] 25)) = V0 at *
  have HBv : Hid (Below W1.heap.size W1 V0) := Lib.hid (hV0 ▸ (Below.refl _ _).alloc (Nat.le_refl _) _)
  clear hV0 hlen4
  have HlD := Lib.hid (df_len xs ys)
  have HG : Hid (∀ b o : Nat, b < w.heap.size → W1.cell? ⟨b, o, none⟩ = w.cell? ⟨b, o, none⟩) := Lib.hid (fun b o h => HB1.out.cell (p := ⟨b, o, none⟩) h)
  go_loopw [19] (fun i wr => ∃ (k : Nat) (u1 u2 u3 : Value), k ≤ (df xs ys).length ∧ i = .int .i64 k ∧ Acc3 wr W1.heap.size 3 (.slice E0 xs.length e0) u1 u2 u3 ((df xs ys).take k) (ones k) ((df xs ys).take k) ∧ Below W1.heap.size W1 wr) (fun i _ => xs.length - (intOf i).toNat)
  case atStart => exact ⟨0, _, _, _, Nat.zero_le _, rfl, HA0.out, HBv.out⟩
  case round =>
    obtain ⟨k, u1, u2, u3, hk, rfl, hacc, hbel⟩ := hrel
    have Hbel := Lib.hid hbel; have Hacc := Lib.hid hacc
    have q0 := hacc.c0; have q1 := hacc.c1; have q2 := hacc.c2
    have Hsz : Hid (W1.heap.size < wr.heap.size) := Lib.hid hacc.lt
    have Hk := Lib.hid hk
    clear hk
    by_cases hlt : k < (df xs ys).length
    · have hlt1 : k < xs.length := by have := HlD.out; omega
      have hlt2 : k < ys.length := by have := HlD.out; omega
      obtain ⟨b1, o1, rfl, hb1, hx1⟩ := Hx1.out k hlt1
      obtain ⟨b2, o2, rfl, hb2, hx2⟩ := Hx2.out k hlt2
      have g1 : wr.cell? ⟨b1, o1 + k, none⟩ = some (.int .i64 xs[k]) := (hbel.cell (p := ⟨b1, o1 + k, none⟩) (by have := Hz1.out; simp only; omega)).trans ((HG.out b1 (o1 + k) (by omega)).trans hx1)
      have g2 : wr.cell? ⟨b2, o2 + k, none⟩ = some (.int .i64 ys[k]) := (hbel.cell (p := ⟨b2, o2 + k, none⟩) (by have := Hz1.out; simp only; omega)).trans ((HG.out b2 (o2 + k) (by omega)).trans hx2)
      have HeL := Lib.hid (df_at xs ys k hlt hlt1 hlt2)
      have HtL := Lib.hid (take_push (df xs ys) k hlt)
      have HtO := Lib.hid (ones_step k)
      have Hnl : Hid (((df xs ys).take k).length = k) := Lib.hid (by rw [List.length_take]; omega)
      have Hno : Hid ((ones k).length = k) := Lib.hid (ones_len k)
      have Hlt := Lib.hid hlt
      have HS1 : Hid (∀ W, Below W1.heap.size wr W → W.cell? ⟨b1, o1 + k, none⟩ = some (.int .i64 xs[k]) ∧ W.cell? ⟨b2, o2 + k, none⟩ = some (.int .i64 ys[k])) := Lib.hid (fun W hW => ⟨(hW.cell (p := ⟨b1, o1 + k, none⟩) (by have := Hz1.out; simp only; omega)).trans g1, (hW.cell (p := ⟨b2, o2 + k, none⟩) (by have := Hz1.out; simp only; omega)).trans g2⟩)
      clear hx1 hx2 hbel hacc hb1 hb2
      generalize (df xs ys)[k] = d at *
      generalize xs[k] = x at *
      generalize ys[k] = y at *
      have hd : IntKind.i64.wrap (y - x) = d := (df1_wrap x y).trans HeL.out.symm
      generalize hLk : (df xs ys).take k = Lk at *
      generalize hOk : ones k = Ok at *
      have HLk := Lib.hid hLk; have HOk := Lib.hid hOk; clear hLk hOk
      go_wp2
      clear g1 g2 q0 q1 q2
      refine wp_region_held_drew (S := fun W => W.cell? ⟨b1, o1 + k, none⟩ = some (.int .i64 x) ∧ W.cell? ⟨b2, o2 + k, none⟩ = some (.int .i64 y)) (by kernel_rfl) (HS1.out _ (Below.refl _ _).drew) (fun hHeld => ?_)
      refine held_yes 0 (some 22) rfl rfl (by kernel_rfl) (by kernel_rfl) (by kernel_rfl) (fun _ _ _ h => h) (by kernel_rfl) hHeld (v := ?_) (fun wz hSw => ?_) ?_
      rotate_left 1
      · (try dsimp only at hSw); go_simp; (try with_reducible rfl)
      try simp only [Act.put, List.setIfInBounds_toArray, List.set_cons_zero, List.set_cons_succ]
      refine held_yes 2 (some 24) rfl rfl (by kernel_rfl) (by kernel_rfl) (by kernel_rfl) (fun _ _ _ h => h) (by kernel_rfl) hHeld (v := ?_) (fun wz hSw => ?_) ?_
      rotate_left 1
      · (try dsimp only at hSw); go_simp; (try with_reducible rfl)
      try simp only [Act.put, List.setIfInBounds_toArray, List.set_cons_zero, List.set_cons_succ]
      refine held_yes 3 (some 25) rfl rfl (by kernel_rfl) (by kernel_rfl) (by kernel_rfl) (fun _ _ _ h => h) (by kernel_rfl) hHeld (v := ?_) (fun wz hSw => ?_) ?_
      rotate_left 1
      · (try dsimp only at hSw); go_simp; (try with_reducible rfl)
      try simp only [Act.put, List.setIfInBounds_toArray, List.set_cons_zero, List.set_cons_succ]
      refine held_yes 4 (some 26) rfl rfl (by kernel_rfl) (by kernel_rfl) (by kernel_rfl) (fun _ _ _ h => h) (by kernel_rfl) hHeld (v := ?_) (fun wz hSw => ?_) ?_
      rotate_left 1
      · (try dsimp only at hSw); go_simp; (try with_reducible rfl)
      try simp only [Act.put, List.setIfInBounds_toArray, List.set_cons_zero, List.set_cons_succ]
      refine held_yes 5 (some 27) rfl rfl (by kernel_rfl) (by kernel_rfl) (by kernel_rfl) (fun _ _ _ h => h) (by kernel_rfl) hHeld (v := ?_) (fun wz hSw => ?_) ?_
      rotate_left 1
      · (try dsimp only at hSw); go_simp; (try with_reducible rfl)
      try simp only [Act.put, List.setIfInBounds_toArray, List.set_cons_zero, List.set_cons_succ]
      refine held_yes 6 (some 28) rfl rfl (by kernel_rfl) (by kernel_rfl) (by kernel_rfl) (fun _ _ _ h => h) (by kernel_rfl) hHeld (v := ?_) (fun wz hSw => ?_) ?_
      rotate_left 1
      · (try dsimp only at hSw); go_simp; (try with_reducible rfl)
      try simp only [Act.put, List.setIfInBounds_toArray, List.set_cons_zero, List.set_cons_succ]
      refine held_yes 7 (some 29) rfl rfl (by kernel_rfl) (by kernel_rfl) (by kernel_rfl) (fun _ _ _ h => h) (by kernel_rfl) hHeld (v := ?_) (fun wz hSw => ?_) ?_
      rotate_left 1
      · (try dsimp only at hSw); go_simp; (try with_reducible rfl)
      try simp only [Act.put, List.setIfInBounds_toArray, List.set_cons_zero, List.set_cons_succ]
      refine held_yes 8 (some 30) rfl rfl (by kernel_rfl) (by kernel_rfl) (by kernel_rfl) (fun _ _ _ h => h) (by kernel_rfl) hHeld (v := ?_) (fun wz hSw => ?_) ?_
      rotate_left 1
      · (try dsimp only at hSw); go_simp; (try with_reducible rfl)
      try simp only [Act.put, List.setIfInBounds_toArray, List.set_cons_zero, List.set_cons_succ]
      refine held_yes 9 (some 31) rfl rfl (by kernel_rfl) (by kernel_rfl) (by kernel_rfl) (fun _ _ _ h => h) (by kernel_rfl) hHeld (v := ?_) (fun wz hSw => ?_) ?_
      rotate_left 1
      · (try dsimp only at hSw); go_simp; (try with_reducible rfl)
      try simp only [Act.put, List.setIfInBounds_toArray, List.set_cons_zero, List.set_cons_succ]
      refine held_yes 10 (some 32) rfl rfl (by kernel_rfl) (by kernel_rfl) (by kernel_rfl) (fun _ _ _ h => h) (by kernel_rfl) hHeld (v := ?_) (fun wz hSw => ?_) ?_
      rotate_left 1
      · (try dsimp only at hSw); go_simp; (try with_reducible rfl)
      try simp only [Act.put, List.setIfInBounds_toArray, List.set_cons_zero, List.set_cons_succ]
      refine wpAnyH_ready (rs := [1, 11]) (by kernel_rfl) (by simp) ?_
      refine AllReadyH.cons rfl (fun K hK => ?_) (AllReadyH.cons rfl (fun K hK => ?_) AllReadyH.nil)
      have qld : wr.drew.cell? ⟨W1.heap.size, 2, none⟩ = some u1 := Hacc.out.c0
      go_simp
      refine hK.out _ _ (HS1.out _ (Below.refl _ _).drew) (fun hHeld => ?_)
      clear hK K qld
      try simp only [Act.put, List.setIfInBounds_toArray, List.set_cons_zero, List.set_cons_succ]
      refine wpAnyH_ready (rs := [11]) (by kernel_rfl) (by simp) ?_
      refine AllReadyH.cons rfl (fun K hK => ?_) AllReadyH.nil
      go_simp
      refine hK.out _ _ (HS1.out _ ((Below.refl _ _).drew.alloc (Nat.le_of_lt Hsz.out) _)) (fun hHeld => ?_)
      clear hK K
      try simp only [Act.put, List.setIfInBounds_toArray, List.set_cons_zero, List.set_cons_succ]
      refine wpAnyH_ready (rs := [12]) (by kernel_rfl) (by simp) ?_
      refine AllReadyH.cons rfl (fun K hK => ?_) AllReadyH.nil
      refine wp_pushd (W := wr.drew) (v := u1) (lo := W1.heap.size + 1) (xs := Lk) (some 34) (by kernel_rfl) (.tmp 23) (.tmp 33) rfl rfl rfl rfl rfl Hacc.out.drew.2.1 Hsz.out (by have := Hnl.out; have := Hs.out.1; omega) ?_
      intro h1 cap1 w1 ow1 gr1 at1 lt1
      obtain ⟨m1, m2⟩ := Hacc.out.drew.mid0 gr1
      have HP1 := Lib.hid (Hacc.out.drew.push0 ow1 gr1 at1)
      have k1 := push_below Hacc.out.drew.2.1 Hacc.out.drew.lt gr1
      refine hK.out _ _ (HS1.out _ ((Below.refl _ _).drew.trans (k1.mono (Nat.le_succ _)))) (fun hHeld => ?_)
      clear hK K k1 ow1 gr1 at1 lt1
      try simp only [Act.put, List.setIfInBounds_toArray, List.set_cons_zero, List.set_cons_succ]
      refine held_yes 13 (some 35) rfl rfl (by kernel_rfl) (by kernel_rfl) (by kernel_rfl) (fun _ _ _ h => h) (by kernel_rfl) hHeld (v := ?_) (fun wz hSw => ?_) ?_
      rotate_left 1
      · (try dsimp only at hSw); go_simp; (try with_reducible rfl)
      try simp only [Act.put, List.setIfInBounds_toArray, List.set_cons_zero, List.set_cons_succ]
      refine wpAnyH_ready (rs := [14]) (by kernel_rfl) (by simp) ?_
      refine AllReadyH.cons rfl (fun K hK => ?_) AllReadyH.nil
      go_simp
      refine hK.out _ _ (HS1.out _ ((Below.refl _ _).drew.trans HP1.out.2)) (fun hHeld => ?_)
      clear hK K m1 m2 hHeld
      try simp only [Act.put, List.setIfInBounds_toArray, List.set_cons_zero, List.set_cons_succ]
      refine wpAnyH_done (by kernel_rfl) ?_ _
      rotate_left
      go_simp
      refine hK.out _ _ (HS1.out _ ((Below.refl _ _).drew.alloc (Nat.le_of_lt Hsz.out) _)) (fun hHeld => ?_)
      clear hK K
      try simp only [Act.put, List.setIfInBounds_toArray, List.set_cons_zero, List.set_cons_succ]
      refine wpAnyH_ready (rs := [1]) (by kernel_rfl) (by simp) ?_
      refine AllReadyH.cons rfl (fun K hK => ?_) AllReadyH.nil
      have qld : (wr.alloc (.cells #[.int .i64 d] 2)).drew.cell? ⟨W1.heap.size, 2, none⟩ = some u1 := (Hacc.out.drew.keep ((Below.refl _ _).alloc (Nat.le_refl _) _)).c0
      go_simp
      refine hK.out _ _ (HS1.out _ ((Below.refl _ _).drew.alloc (Nat.le_of_lt Hsz.out) _)) (fun hHeld => ?_)
      clear hK K qld
      try simp only [Act.put, List.setIfInBounds_toArray, List.set_cons_zero, List.set_cons_succ]
      refine wpAnyH_ready (rs := [12]) (by kernel_rfl) (by simp) ?_
      refine AllReadyH.cons rfl (fun K hK => ?_) AllReadyH.nil
      refine wp_pushd (W := wr.drew) (v := u1) (lo := W1.heap.size + 1) (xs := Lk) (some 34) (by kernel_rfl) (.tmp 23) (.tmp 33) rfl rfl rfl rfl rfl Hacc.out.drew.2.1 Hsz.out (by have := Hnl.out; have := Hs.out.1; omega) ?_
      intro h1 cap1 w1 ow1 gr1 at1 lt1
      obtain ⟨m1, m2⟩ := Hacc.out.drew.mid0 gr1
      have HP1 := Lib.hid (Hacc.out.drew.push0 ow1 gr1 at1)
      have k1 := push_below Hacc.out.drew.2.1 Hacc.out.drew.lt gr1
      refine hK.out _ _ (HS1.out _ ((Below.refl _ _).drew.trans (k1.mono (Nat.le_succ _)))) (fun hHeld => ?_)
      clear hK K k1 ow1 gr1 at1 lt1
      try simp only [Act.put, List.setIfInBounds_toArray, List.set_cons_zero, List.set_cons_succ]
      refine held_yes 13 (some 35) rfl rfl (by kernel_rfl) (by kernel_rfl) (by kernel_rfl) (fun _ _ _ h => h) (by kernel_rfl) hHeld (v := ?_) (fun wz hSw => ?_) ?_
      rotate_left 1
      · (try dsimp only at hSw); go_simp; (try with_reducible rfl)
      try simp only [Act.put, List.setIfInBounds_toArray, List.set_cons_zero, List.set_cons_succ]
      refine wpAnyH_ready (rs := [14]) (by kernel_rfl) (by simp) ?_
      refine AllReadyH.cons rfl (fun K hK => ?_) AllReadyH.nil
      go_simp
      refine hK.out _ _ (HS1.out _ ((Below.refl _ _).drew.trans HP1.out.2)) (fun hHeld => ?_)
      clear hK K m1 m2 hHeld
      try simp only [Act.put, List.setIfInBounds_toArray, List.set_cons_zero, List.set_cons_succ]
      refine wpAnyH_done (by kernel_rfl) ?_ _
      rotate_left
      all_goals (
        have HV1 := Lib.hid HP1.out.1
        have HW1 := Lib.hid HP1.out.2
        have HZ1 := Lib.hid HP1.out.1.lt
        clear HP1
        try simp only [Exit.then]
        generalize (w1.setCell ⟨W1.heap.size, 2, none⟩ (.slice (some ⟨h1, 0, none⟩) (Lk.length + 1) cap1)) = V1 at *
        have m3 := HV1.out.c1
        go_wp2_with (at_builtin; refine wpList_push (W := V1) (v := u2) (lo := W1.heap.size + 1) (xs := Ok) rfl (.tmp 37) (.tmp 38) rfl rfl rfl rfl HV1.out.2.2.1 HZ1.out (by have := Hno.out; have := Hs.out.1; omega) ?_; intro h2 cap2 w2 ow2 gr2 at2 lt2; clear m3; obtain ⟨m4, m5⟩ := HV1.out.mid1 gr2; have HP2 := Lib.hid (HV1.out.push1 ow2 gr2 at2); clear ow2 gr2 at2)
        try clear m4 m5
        have HV2 := Lib.hid HP2.out.1
        have HW2 : Hid (Below W1.heap.size wr (w2.setCell ⟨W1.heap.size, 3, none⟩ (.slice (some ⟨h2, 0, none⟩) (Ok.length + 1) cap2))) := Lib.hid (((Below.refl _ _).drew.trans HW1.out).trans HP2.out.2)
        have HZ2 := Lib.hid HP2.out.1.lt
        clear HP2
        generalize (w2.setCell ⟨W1.heap.size, 3, none⟩ (.slice (some ⟨h2, 0, none⟩) (Ok.length + 1) cap2)) = V2 at *
        refine wp_region_held_drew (S := fun W => W.cell? ⟨b1, o1 + k, none⟩ = some (.int .i64 x) ∧ W.cell? ⟨b2, o2 + k, none⟩ = some (.int .i64 y)) (by kernel_rfl) (HS1.out _ (HW2.out).drew) (fun hHeld => ?_)
        refine held_yes 0 (some 41) rfl rfl (by kernel_rfl) (by kernel_rfl) (by kernel_rfl) (fun _ _ _ h => h) (by kernel_rfl) hHeld (v := ?_) (fun wz hSw => ?_) ?_
        rotate_left 1
        · (try dsimp only at hSw); go_simp; (try with_reducible rfl)
        try simp only [Act.put, List.setIfInBounds_toArray, List.set_cons_zero, List.set_cons_succ]
        refine held_yes 2 (some 43) rfl rfl (by kernel_rfl) (by kernel_rfl) (by kernel_rfl) (fun _ _ _ h => h) (by kernel_rfl) hHeld (v := ?_) (fun wz hSw => ?_) ?_
        rotate_left 1
        · (try dsimp only at hSw); go_simp; (try with_reducible rfl)
        try simp only [Act.put, List.setIfInBounds_toArray, List.set_cons_zero, List.set_cons_succ]
        refine held_yes 3 (some 44) rfl rfl (by kernel_rfl) (by kernel_rfl) (by kernel_rfl) (fun _ _ _ h => h) (by kernel_rfl) hHeld (v := ?_) (fun wz hSw => ?_) ?_
        rotate_left 1
        · (try dsimp only at hSw); go_simp; (try with_reducible rfl)
        try simp only [Act.put, List.setIfInBounds_toArray, List.set_cons_zero, List.set_cons_succ]
        refine held_yes 4 (some 45) rfl rfl (by kernel_rfl) (by kernel_rfl) (by kernel_rfl) (fun _ _ _ h => h) (by kernel_rfl) hHeld (v := ?_) (fun wz hSw => ?_) ?_
        rotate_left 1
        · (try dsimp only at hSw); go_simp; (try with_reducible rfl)
        try simp only [Act.put, List.setIfInBounds_toArray, List.set_cons_zero, List.set_cons_succ]
        refine held_yes 5 (some 46) rfl rfl (by kernel_rfl) (by kernel_rfl) (by kernel_rfl) (fun _ _ _ h => h) (by kernel_rfl) hHeld (v := ?_) (fun wz hSw => ?_) ?_
        rotate_left 1
        · (try dsimp only at hSw); go_simp; (try with_reducible rfl)
        try simp only [Act.put, List.setIfInBounds_toArray, List.set_cons_zero, List.set_cons_succ]
        refine held_yes 6 (some 47) rfl rfl (by kernel_rfl) (by kernel_rfl) (by kernel_rfl) (fun _ _ _ h => h) (by kernel_rfl) hHeld (v := ?_) (fun wz hSw => ?_) ?_
        rotate_left 1
        · (try dsimp only at hSw); go_simp; (try with_reducible rfl)
        try simp only [Act.put, List.setIfInBounds_toArray, List.set_cons_zero, List.set_cons_succ]
        refine held_yes 7 (some 48) rfl rfl (by kernel_rfl) (by kernel_rfl) (by kernel_rfl) (fun _ _ _ h => h) (by kernel_rfl) hHeld (v := ?_) (fun wz hSw => ?_) ?_
        rotate_left 1
        · (try dsimp only at hSw); go_simp; (try with_reducible rfl)
        try simp only [Act.put, List.setIfInBounds_toArray, List.set_cons_zero, List.set_cons_succ]
        refine held_yes 8 (some 49) rfl rfl (by kernel_rfl) (by kernel_rfl) (by kernel_rfl) (fun _ _ _ h => h) (by kernel_rfl) hHeld (v := ?_) (fun wz hSw => ?_) ?_
        rotate_left 1
        · (try dsimp only at hSw); go_simp; (try with_reducible rfl)
        try simp only [Act.put, List.setIfInBounds_toArray, List.set_cons_zero, List.set_cons_succ]
        refine held_yes 9 (some 50) rfl rfl (by kernel_rfl) (by kernel_rfl) (by kernel_rfl) (fun _ _ _ h => h) (by kernel_rfl) hHeld (v := ?_) (fun wz hSw => ?_) ?_
        rotate_left 1
        · (try dsimp only at hSw); go_simp; (try with_reducible rfl)
        try simp only [Act.put, List.setIfInBounds_toArray, List.set_cons_zero, List.set_cons_succ]
        refine held_yes 10 (some 51) rfl rfl (by kernel_rfl) (by kernel_rfl) (by kernel_rfl) (fun _ _ _ h => h) (by kernel_rfl) hHeld (v := ?_) (fun wz hSw => ?_) ?_
        rotate_left 1
        · (try dsimp only at hSw); go_simp; (try with_reducible rfl)
        try simp only [Act.put, List.setIfInBounds_toArray, List.set_cons_zero, List.set_cons_succ]
        refine wpAnyH_ready (rs := [1, 11]) (by kernel_rfl) (by simp) ?_
        refine AllReadyH.cons rfl (fun K hK => ?_) (AllReadyH.cons rfl (fun K hK => ?_) AllReadyH.nil)
        have qld : V2.drew.cell? ⟨W1.heap.size, 4, none⟩ = some u3 := HV2.out.c2
        go_simp
        refine hK.out _ _ (HS1.out _ (HW2.out).drew) (fun hHeld => ?_)
        clear hK K qld
        try simp only [Act.put, List.setIfInBounds_toArray, List.set_cons_zero, List.set_cons_succ]
        refine wpAnyH_ready (rs := [11]) (by kernel_rfl) (by simp) ?_
        refine AllReadyH.cons rfl (fun K hK => ?_) AllReadyH.nil
        go_simp
        refine hK.out _ _ (HS1.out _ (HW2.out.drew.alloc (Nat.le_of_lt HZ2.out) _)) (fun hHeld => ?_)
        clear hK K
        try simp only [Act.put, List.setIfInBounds_toArray, List.set_cons_zero, List.set_cons_succ]
        refine wpAnyH_ready (rs := [12]) (by kernel_rfl) (by simp) ?_
        refine AllReadyH.cons rfl (fun K hK => ?_) AllReadyH.nil
        refine wp_pushd (W := V2.drew) (v := u3) (lo := W1.heap.size + 1) (xs := Lk) (some 53) (by kernel_rfl) (.tmp 42) (.tmp 52) rfl rfl rfl rfl rfl HV2.out.drew.2.2.2.1 HZ2.out (by have := Hnl.out; have := Hs.out.1; omega) ?_
        intro h1 cap1 w1 ow1 gr1 at1 lt1
        obtain ⟨m1, m2⟩ := HV2.out.drew.mid2 gr1
        have HP3 := Lib.hid (HV2.out.drew.push2 ow1 gr1 at1)
        have k1 := push_below HV2.out.drew.2.2.2.1 HV2.out.drew.lt gr1
        refine hK.out _ _ (HS1.out _ (HW2.out.drew.trans (k1.mono (Nat.le_succ _)))) (fun hHeld => ?_)
        clear hK K k1 ow1 gr1 at1 lt1
        try simp only [Act.put, List.setIfInBounds_toArray, List.set_cons_zero, List.set_cons_succ]
        refine held_yes 13 (some 54) rfl rfl (by kernel_rfl) (by kernel_rfl) (by kernel_rfl) (fun _ _ _ h => h) (by kernel_rfl) hHeld (v := ?_) (fun wz hSw => ?_) ?_
        rotate_left 1
        · (try dsimp only at hSw); go_simp; (try with_reducible rfl)
        try simp only [Act.put, List.setIfInBounds_toArray, List.set_cons_zero, List.set_cons_succ]
        refine wpAnyH_ready (rs := [14]) (by kernel_rfl) (by simp) ?_
        refine AllReadyH.cons rfl (fun K hK => ?_) AllReadyH.nil
        go_simp
        refine hK.out _ _ (HS1.out _ (HW2.out.drew.trans HP3.out.2)) (fun hHeld => ?_)
        clear hK K m1 m2 hHeld
        try simp only [Act.put, List.setIfInBounds_toArray, List.set_cons_zero, List.set_cons_succ]
        refine wpAnyH_done (by kernel_rfl) ?_ _
        rotate_left
        go_simp
        refine hK.out _ _ (HS1.out _ (HW2.out.drew.alloc (Nat.le_of_lt HZ2.out) _)) (fun hHeld => ?_)
        clear hK K
        try simp only [Act.put, List.setIfInBounds_toArray, List.set_cons_zero, List.set_cons_succ]
        refine wpAnyH_ready (rs := [1]) (by kernel_rfl) (by simp) ?_
        refine AllReadyH.cons rfl (fun K hK => ?_) AllReadyH.nil
        have qld : (V2.alloc (.cells #[.int .i64 d] 2)).drew.cell? ⟨W1.heap.size, 4, none⟩ = some u3 := (HV2.out.drew.keep ((Below.refl _ _).alloc (Nat.le_refl _) _)).c2
        go_simp
        refine hK.out _ _ (HS1.out _ (HW2.out.drew.alloc (Nat.le_of_lt HZ2.out) _)) (fun hHeld => ?_)
        clear hK K qld
        try simp only [Act.put, List.setIfInBounds_toArray, List.set_cons_zero, List.set_cons_succ]
        refine wpAnyH_ready (rs := [12]) (by kernel_rfl) (by simp) ?_
        refine AllReadyH.cons rfl (fun K hK => ?_) AllReadyH.nil
        refine wp_pushd (W := V2.drew) (v := u3) (lo := W1.heap.size + 1) (xs := Lk) (some 53) (by kernel_rfl) (.tmp 42) (.tmp 52) rfl rfl rfl rfl rfl HV2.out.drew.2.2.2.1 HZ2.out (by have := Hnl.out; have := Hs.out.1; omega) ?_
        intro h1 cap1 w1 ow1 gr1 at1 lt1
        obtain ⟨m1, m2⟩ := HV2.out.drew.mid2 gr1
        have HP3 := Lib.hid (HV2.out.drew.push2 ow1 gr1 at1)
        have k1 := push_below HV2.out.drew.2.2.2.1 HV2.out.drew.lt gr1
        refine hK.out _ _ (HS1.out _ (HW2.out.drew.trans (k1.mono (Nat.le_succ _)))) (fun hHeld => ?_)
        clear hK K k1 ow1 gr1 at1 lt1
        try simp only [Act.put, List.setIfInBounds_toArray, List.set_cons_zero, List.set_cons_succ]
        refine held_yes 13 (some 54) rfl rfl (by kernel_rfl) (by kernel_rfl) (by kernel_rfl) (fun _ _ _ h => h) (by kernel_rfl) hHeld (v := ?_) (fun wz hSw => ?_) ?_
        rotate_left 1
        · (try dsimp only at hSw); go_simp; (try with_reducible rfl)
        try simp only [Act.put, List.setIfInBounds_toArray, List.set_cons_zero, List.set_cons_succ]
        refine wpAnyH_ready (rs := [14]) (by kernel_rfl) (by simp) ?_
        refine AllReadyH.cons rfl (fun K hK => ?_) AllReadyH.nil
        go_simp
        refine hK.out _ _ (HS1.out _ (HW2.out.drew.trans HP3.out.2)) (fun hHeld => ?_)
        clear hK K m1 m2 hHeld
        try simp only [Act.put, List.setIfInBounds_toArray, List.set_cons_zero, List.set_cons_succ]
        refine wpAnyH_done (by kernel_rfl) ?_ _
        rotate_left
        all_goals (
          try simp only [Exit.then]
          go_wp2
          go_roundw
          case rel => exact ⟨k + 1, _, _, _, by omega, by go_num, HtL.out ▸ HtO.out ▸ HP3.out.1, Hbel.out.trans (HW2.out.trans ((Below.refl _ _).drew.trans HP3.out.2))⟩
          case measure => simp [intOf]; omega))

    · obtain rfl : k = (df xs ys).length := by have := Hk.out; omega
      have hdl : (df xs ys).length = xs.length := by have := HlD.out; have := Hlen.out; omega
      have HA4 : Hid (Acc3 wr W1.heap.size 3 (.slice E0 xs.length e0) u1 u2 u3 (df xs ys) (ones (df xs ys).length) (df xs ys)) := Lib.hid (by
        have h3 := Hacc.out
        rw [List.take_of_length_le (Nat.le_refl _)] at h3
        exact h3)
      have Hsel : Hid (Sel4 wr (w.heap.size + 1) (.slice E0 xs.length e0) u1 u2 u3 xs (df xs ys) (ones (df xs ys).length) (df xs ys)) := Lib.hid (HA4.out.sel HO0.out rfl Hbel.out (by have := Hz1.out; omega))
      have HrW : Hid (wr.heap[w.heap.size]? = some (.cells #[.int .i64 0, .slice none 0 0, .slice none 0 0, .slice none 0 0, .slice none 0 0, .slice none 0 0] 25 (0, 0))) := Lib.hid ((hbel.block _ Hz1.out).trans Hr1.out)
      have HBW : Hid (Below w.heap.size w wr) := Lib.hid (HB1.out.trans (hbel.mono HB1.out.size))
      have HzW : Hid (w.heap.size < wr.heap.size) := Lib.hid (by have := Hsz.out; have := Hz1.out; omega)
      have HF := Lib.hid (implFormed_any (k := 3) (Hsel.out.1.ri H1.out.inI) (Hsel.out.2.1.ri (df_in xs ys)) (Hsel.out.2.2.1.ri (ones_in _)) (Hsel.out.2.2.2.1.ri (df_in xs ys)) (ripN _ _) (Nat.le_refl _) ⟨Hs.out.1, by rw [hdl]; exact Hs.out.1, by rw [ones_len, hdl]; exact Hs.out.1, by rw [hdl]; exact Hs.out.1⟩)
      have HE : Hid (formedB 3 xs (df xs ys) (ones (df xs ys).length) (df xs ys) [] = rgOk xs ys) := Lib.hid (rgOk_eq Hlen.out)
      have HRow := Lib.hid HA4.out.1
      have hge : ¬ (df xs ys).length < xs.length := by omega
      have hge2 : ¬ (df xs ys).length < ys.length := by have := Hlen.out; omega
      have Hdl := Lib.hid hdl; clear hdl hlt
      clear hbel hacc q0 q1 q2
      go_wp2_with (refine wpList_load_row rfl 25 (.tmp 6) rfl _ rfl 25 _ (0, 0) _ HRow.out Try.underlying25 rfl (by kernel_rfl) ?_)
      refine (HE.out ▸ HF.out).mono ?_
      rintro e W2 ⟨rfl, g⟩
      have HR3 : Hid (W2.heap[W1.heap.size]? = some (.cells #[.int .i64 3, .slice E0 xs.length e0, u1, u2, u3, .slice none 0 0] 25 (0, 0))) := Lib.hid ((g.block _ Hsz.out).trans HRow.out)
      have HB3 : Hid (Below w.heap.size w W2) := Lib.hid (HBW.out.trans (g.mono HBW.out.size))
      have Hr3 : Hid (W2.heap[w.heap.size]? = some (.cells #[.int .i64 0, .slice none 0 0, .slice none 0 0, .slice none 0 0, .slice none 0 0, .slice none 0 0] 25 (0, 0))) := Lib.hid ((g.block _ HzW.out).trans HrW.out)
      have HS3 := Lib.hid (Hsel.out.bel g)
      have H29 : Hid ((#[.int .i64 3, .slice E0 xs.length e0, u1, u2, u3, .slice none 0 0] : Array Value).all (·.oneCell') = true) := Lib.hid (by
        obtain ⟨E1, e1, h1⟩ := Hsel.out.2.1.sl
        obtain ⟨E2, e2, h2⟩ := Hsel.out.2.2.1.sl
        obtain ⟨E3, e3, h3⟩ := Hsel.out.2.2.2.1.sl
        rw [h1, h2, h3]; simp [Value.oneCell'])
      clear g
      cases hr : rgOk xs ys
      · have Hf := Lib.hid hr; clear hr
        go_wp2_with (refine wpList_store_row rfl 25 (.tmp 4) (.tmp 59) rfl w.heap.size #[.int .i64 0, .slice none 0 0, .slice none 0 0, .slice none 0 0, .slice none 0 0, .slice none 0 0] rfl rfl 25 _ Hr3.out Hi9.out rfl H19.out ?_)
        refine bodyPost_ret (v := .tuple #[.agg #[.int .i64 0, .slice none 0 0, .slice none 0 0, .slice none 0 0, .slice none 0 0, .slice none 0 0], .bool false]) ?_ ?_ ?_
        · exact results_cell_row2 rfl _ _ w.heap.size 25 _ (0, 0) _ _ rfl rfl (setRow_heap _ _ _ _ _ _ Hr3.out) Try.underlying25 rfl (by kernel_rfl)
        · rfl
        · exact rg_no Hf.out (below_setRow HB3.out (Nat.le_refl _) _)
      · have Hf := Lib.hid hr; clear hr
        go_wp2_with (first | (refine wpList_load_row rfl 25 (.tmp 6) rfl _ rfl 25 _ (0, 0) _ HR3.out Try.underlying25 rfl (by kernel_rfl) ?_) | (refine wpList_store_row rfl 25 (.tmp 4) (.tmp 60) rfl w.heap.size #[.int .i64 3, .slice E0 xs.length e0, u1, u2, u3, .slice none 0 0] rfl rfl 25 _ Hr3.out (by kernel_rfl) rfl H29.out ?_))
        refine bodyPost_ret (v := .tuple #[.agg #[.int .i64 3, .slice E0 xs.length e0, u1, u2, u3, .slice none 0 0], .bool true]) ?_ ?_ ?_
        · exact results_cell_row2 rfl _ _ w.heap.size 25 _ (0, 0) _ _ rfl rfl (setRow_heap _ _ _ _ _ _ Hr3.out) Try.underlying25 rfl (by kernel_rfl)
        · rfl
        · exact rg_yes Hf.out ((HS3.out.row (Nat.lt_succ_self _) _).lo (Nat.le_succ _)) (below_setRow HB3.out (Nat.le_refl _) _)
end Go.Proofs.Ytbghekgghiamcaa
