/- Lists of boxes in memory; contracts of the laws' functions that bound, copy and compare them. No statement is proved here. -/
import Derived.Test.YtbghekgghiamcaaBx
namespace Go.Proofs.Ytbghekgghiamcaa
open Go.RowKit
set_option linter.unusedVariables false
abbrev Bx := List Int × List Int
/-- A slice of boxes that reads as these pairs of lists, below block B. -/
def RiB (B : Nat) (w : World) (v : Value) (bs : List Bx) : Prop := ∃ (A : Option Addr) (cap : Nat), v = .slice A bs.length cap ∧ bs.length ≤ cap ∧ cap ≤ maxLen ∧
  ∀ (i : Nat) (hi : i < bs.length), ∃ (b o : Nat) (u1 u2 : Value), A = some ⟨b, o, none⟩ ∧ b < B ∧ w.cell? ⟨b, o + i * 2, none⟩ = some u1 ∧ w.cell? ⟨b, o + i * 2 + 1, none⟩ = some u2 ∧ Ri B w u1 bs[i].1 ∧ Ri B w u2 bs[i].2
theorem RiB.up {B B' : Nat} {w w' : World} {v : Value} {bs : List Bx} (h : RiB B w v bs) (hB : B ≤ B') (hw : Below B w w') : RiB B' w' v bs := by
  obtain ⟨A, cap, hv, h1, h2, h3⟩ := h
  refine ⟨A, cap, hv, h1, h2, fun i hi => ?_⟩
  obtain ⟨b, o, u1, u2, hA, hb, hc1, hc2, hr1, hr2⟩ := h3 i hi
  exact ⟨b, o, u1, u2, hA, by omega, by rw [hw.cell hb]; exact hc1, by rw [hw.cell hb]; exact hc2, hr1.up hB hw, hr2.up hB hw⟩
theorem RiB.at {B : Nat} {w w' : World} {v : Value} {bs : List Bx} (h : RiB B w v bs) (hB : B ≤ w.heap.size) (hw : Below w.heap.size w w') : RiB w'.heap.size w' v bs :=
  (h.up (Nat.le_refl _) (hw.mono hB)).up (Nat.le_trans hB hw.size) (Below.refl _ _)
theorem Rd.rib {f B : Nat} {w : World} {v : Value} {d : D} (h : Rd f B w (.sl .bx) v d) : ∃ bs : List Bx, RiB B w v bs := by
  obtain ⟨f', rows, A, cap, _, _, rfl, hl, hc, hx⟩ := Rd.sl h
  have each : ∀ i, i < rows.length → ∃ x : Bx, ∃ (b o : Nat) (u1 u2 : Value), A = some ⟨b, o, none⟩ ∧ b < B ∧ w.cell? ⟨b, o + i * 2, none⟩ = some u1 ∧ w.cell? ⟨b, o + i * 2 + 1, none⟩ = some u2 ∧ Ri B w u1 x.1 ∧ Ri B w u2 x.2 := by
    intro i hi
    obtain ⟨b, o, cs, hA, hb, hc, hd⟩ := hx i rows[i] (List.getElem?_eq_getElem hi)
    generalize rows[i] = row at *
    obtain ⟨c, d, vs', ds', rfl, rfl, hd1, hn⟩ := RdsOf.cons hd
    obtain ⟨c2, d2, vs2, ds2, rfl, rfl, hd2, hn2⟩ := RdsOf.cons hn
    obtain ⟨rfl, rfl⟩ := RdsOf.nil hn2
    obtain ⟨x, hx⟩ := Rd.ri hd1
    obtain ⟨y, hy⟩ := Rd.ri hd2
    exact ⟨(x, y), b, o, c, c2, hA, hb, hc 0 _ rfl, hc 1 _ rfl, hx, hy⟩
  obtain ⟨xs, hl2, hx2⟩ := list_of rows.length each
  exact ⟨xs, A, cap, by rw [hl2], by omega, hc, fun i hi => hx2 i hi⟩
theorem RiB.inI {B : Nat} {w : World} {v : Value} {bs : List Bx} (h : RiB B w v bs) : ∀ p ∈ bs, (∀ x ∈ p.1, InI x) ∧ ∀ x ∈ p.2, InI x := by
  obtain ⟨A, cap, hv, h1, h2, h3⟩ := h
  intro p hp
  obtain ⟨i, hi, rfl⟩ := List.getElem_of_mem hp
  obtain ⟨b, o, u1, u2, hA, hb, _, _, hI, hJ⟩ := h3 i hi
  exact ⟨hI.inI, hJ.inI⟩
/-- A slice of boxes of one's own, with the blocks of each box's lists. -/
def BRow (w : World) (lo : Nat) (v : Value) (bs : List Bx) : Prop := ∃ (b : Nat) (C : Array Value), v = .slice (some ⟨b, 0, none⟩) bs.length bs.length ∧ lo ≤ b ∧ w.heap[b]? = some (.cells C 43 (0, 0)) ∧ C.size = bs.length * 2 ∧
  ∀ (j : Nat) (hj : j < bs.length), ∃ b1 b2, C[j * 2]? = some (.slice (some ⟨b1, 0, none⟩) bs[j].1.length bs[j].1.length) ∧ C[j * 2 + 1]? = some (.slice (some ⟨b2, 0, none⟩) bs[j].2.length bs[j].2.length) ∧ lo ≤ b1 ∧ lo ≤ b2 ∧ Row w b1 bs[j].1 ∧ Row w b2 bs[j].2
def SmB (bs : List Bx) : Prop := bs.length ≤ 1048576 ∧ ∀ p ∈ bs, p.1.length ≤ 1048576 ∧ p.2.length ≤ 1048576
theorem BRow.rib {w : World} {lo : Nat} {v : Value} {bs : List Bx} (h : BRow w lo v bs) (hs : SmB bs) (hi : ∀ p ∈ bs, (∀ x ∈ p.1, InI x) ∧ ∀ x ∈ p.2, InI x) : RiB w.heap.size w v bs := by
  obtain ⟨b, C, rfl, _, hr, hsz, hj⟩ := h
  refine ⟨_, _, rfl, Nat.le_refl _, by unfold maxLen; have := hs.1; omega, fun i h => ?_⟩
  obtain ⟨b1, b2, h1, h2, _, _, h3, h4⟩ := hj i h
  have hb : b < w.heap.size := by
    rcases Nat.lt_or_ge b w.heap.size with hl | hl
    · exact hl
    · rw [Array.getElem?_eq_none hl] at hr; cases hr
  have hm := hs.2 _ (List.getElem_mem h)
  have hI := hi _ (List.getElem_mem h)
  exact ⟨b, 0, _, _, rfl, hb, by rw [cell_of_row _ _ _ _ _ _ hr, Nat.zero_add]; exact h1, by rw [cell_of_row _ _ _ _ _ _ hr, Nat.zero_add]; exact h2, h3.ri h3.lt hI.1 (by unfold maxLen; omega), h4.ri h4.lt hI.2 (by unfold maxLen; omega)⟩
theorem there_row {w : World} {b o n : Nat} {C : Array Value} {t : TypeId} (h : w.heap[b]? = some (.cells C t (0, 0))) (hn : o + n ≤ C.size) : w.there b o n := fun j hj =>
  ⟨by rw [cell_of_row _ _ _ _ _ _ h, Array.getElem?_eq_getElem (by omega)]; rfl, frozen_of_row _ _ _ _ _ h⟩
theorem two_cells {w : World} {b o : Nat} {u1 u2 : Value} (h1 : w.cell? ⟨b, o, none⟩ = some u1) (h2 : w.cell? ⟨b, o + 1, none⟩ = some u2) : ∀ (j : Nat) (u : Value), [u1, u2][j]? = some u → w.cell? ⟨b, o + j, none⟩ = some u := fun j u hj => by
  rcases j with _ | _ | j
  · obtain rfl := Option.some.inj hj; exact h1
  · obtain rfl := Option.some.inj hj; exact h2
  · simp at hj
set_option maxHeartbeats 400000 in
set_option maxRecDepth 100000 in
theorem szBoxes_any {B : Nat} {w : World} {v : Value} {bs : List Bx} (h : RiB B w v bs) (hB : B ≤ w.heap.size) (L : Int) (h0 : 0 ≤ L) (h1 : L ≤ 1048576) :
    Calls Try.prog 20 #[v, .int .i64 L] w (Left L (SmB bs) w) := by
  obtain ⟨A, cap, rfl, hl, hc, hx⟩ := h
  have hs : bs.length ≤ 1048576 → (∀ j (hj : j < bs.length), bs[j].1.length ≤ 1048576 ∧ bs[j].2.length ≤ 1048576) → SmB bs := fun h h2 => ⟨h, fun p hp => by
    obtain ⟨j, hj, rfl⟩ := List.getElem_of_mem hp
    exact h2 j hj⟩
  generalize SmB bs = P at *
  unfold maxLen at hc
  have Hs := Lib.hid hs; have Hx := Lib.hid hx; clear hs hx
  by_cases hn : L < (bs.length : Int)
  · go_enter Try.func20, Try.ntmps20
    go_wp2
    go_ret
    exact ⟨-1, rfl, by omega, by omega, by omega, Below.refl _ _⟩
  · go_enter Try.func20, Try.ntmps20
    go_wp2
    go_loopw [1, 5] (fun l i wr => ∃ k : Nat, ∃ n : Int, k ≤ bs.length ∧ i = .int .i64 k ∧ l = .int .i64 n ∧ 0 ≤ n ∧ n ≤ L ∧ Below w.heap.size w wr ∧ ∀ j (hj : j < bs.length), j < k → bs[j].1.length ≤ 1048576 ∧ bs[j].2.length ≤ 1048576) (fun _ i _ => bs.length - (intOf i).toNat)
    case atStart => exact ⟨0, _, Nat.zero_le _, rfl, rfl, by omega, by omega, Below.refl _ _, fun j hj h => absurd h (by omega)⟩
    case round =>
      obtain ⟨k, n, hk, rfl, rfl, hn0, hnL, hbel, hall⟩ := hrel
      have Hall := Lib.hid hall; clear hall
      have Hbel := Lib.hid hbel
      have hsz := hbel.size
      by_cases hlt : k < bs.length
      · obtain ⟨b, o, u1, u2, rfl, hb, hc1, hc2, hr1, hr2⟩ := Hx.out k hlt
        have Hr1 := Lib.hid (hr1.at hB hbel); have Hr2 := Lib.hid (hr2.at hB hbel)
        have Hld := Lib.hid (run_load_cells (P := Try.prog) wr b (o + k * 2) 70 _ [u1, u2] (two_cells (by rw [hbel.cell (show b < _ from by omega)]; exact hc1) (by rw [hbel.cell (show b < _ from by omega)]; exact hc2)) Try.underlying70 (by kernel_rfl))
        clear hc1 hc2 hbel hr1 hr2
        go_wp2_with (refine wpList_load_agg rfl 70 (.tmp 20) rfl _ rfl _ Hld.out ?_)
        refine (szBox_any Hr1.out Hr2.out (Nat.le_refl _) n hn0 (by omega)).mono ?_
        rintro e w1 ⟨n1, rfl, hn1, hn1L, hp1, hbel1⟩
        have Hp1 := Lib.hid hp1; clear hp1
        have Hbel2 := Lib.hid (Hbel.out.trans (hbel1.mono hsz))
        clear hbel1
        by_cases hneg : n1 < 0
        · go_wp2
          go_ret
          exact ⟨-1, rfl, by omega, by omega, by omega, Hbel2.out⟩
        · have Hall2 : Hid (∀ j (hj : j < bs.length), j < k + 1 → bs[j].1.length ≤ 1048576 ∧ bs[j].2.length ≤ 1048576) := Lib.hid (fun j hj hjk => by
            rcases Nat.lt_or_ge j k with h | h
            · exact Hall.out j hj h
            · obtain rfl : j = k := by omega
              exact Hp1.out (by omega))
          go_wp2
          go_roundw
          case rel => exact ⟨k + 1, n1, by omega, by go_num, rfl, by omega, by omega, Hbel2.out, Hall2.out⟩
          case measure => simp [intOf]; omega
      · have Hp : Hid P := Lib.hid (Hs.out (by omega) (fun j hj => Hall.out j hj (by omega)))
        clear hbel
        go_wp2
        go_ret
        exact ⟨n, rfl, by omega, by omega, fun _ => Hp.out, Hbel.out⟩
theorem Try.infoB : (Try.prog.info? 43).map (fun i => (i.zero.isSome, i.size, i.bytes)) = some (true, 2, 48) := by kernel_rfl
theorem Row.cells {w : World} {b b' : Nat} {xs : List Int} (h : Row w b xs) (hne : b ≠ b') (o : Nat) (vs : List Value) : Row (w.setCells b' o vs) b xs := by
  unfold Row; rw [heap_setCells_other _ _ hne]; exact h
theorem heap_setCells2 {w : World} {b o : Nat} {C : Array Value} {t : TypeId} (u1 u2 : Value) (h : w.heap[b]? = some (.cells C t (0, 0))) : (w.setCells b o [u1, u2]).heap[b]? = some (.cells ((C.setIfInBounds o u1).setIfInBounds (o + 1) u2) t (0, 0)) := by
  show ((w.setCell ⟨b, o, none⟩ u1).setCell ⟨b, o + 1, none⟩ u2).heap[b]? = _
  exact heap_setCell_same _ _ _ _ _ _ (heap_setCell_same _ _ _ _ _ _ h)
set_option maxHeartbeats 1000000 in
set_option maxRecDepth 100000 in
theorem toBoxes_any {B : Nat} {w : World} {v : Value} {bs : List Bx} (h : RiB B w v bs) (hB : B ≤ w.heap.size) (hs : SmB bs) :
    Calls Try.prog 22 #[v] w fun e w' => e = .returned (.slice (some ⟨w.heap.size, 0, none⟩) bs.length bs.length) ∧ BRow w' w.heap.size (.slice (some ⟨w.heap.size, 0, none⟩) bs.length bs.length) bs ∧ True ∧ Below w.heap.size w w' := by
  obtain ⟨A, cap, rfl, hl, hc, hx⟩ := h
  have hs1 := hs.1
  obtain ⟨C, hC, hmk⟩ := make_all (P := Try.prog) 46 43 bs.length 2 48 Try.underlying46 Try.infoB (by omega) (by omega)
  have Hx := Lib.hid hx; have HC := Lib.hid hC; have Hs := Lib.hid hs
  clear hx hC hs
  unfold maxLen at hc
  have HB0 : Hid (Below w.heap.size w (w.alloc (.cells C 43))) := Lib.hid ((Below.refl _ w).alloc (Nat.le_refl _) _)
  have HR0 : Hid ((w.alloc (.cells C 43)).heap[w.heap.size]? = some (.cells C 43 (0, 0))) := Lib.hid (heap_alloc_new w _)
  have HZ0 : Hid (w.heap.size < (w.alloc (.cells C 43)).heap.size) := Lib.hid (by simp)
  go_enter Try.func22, Try.ntmps22
  go_wp2
  go_loopw [4] (fun i wr => ∃ k : Nat, ∃ C' : Array Value, k ≤ bs.length ∧ i = .int .i64 k ∧ wr.heap[w.heap.size]? = some (.cells C' 43 (0, 0)) ∧ C'.size = bs.length * 2 ∧ (∀ j (hj : j < bs.length), j < k → ∃ b1 b2, C'[j * 2]? = some (.slice (some ⟨b1, 0, none⟩) bs[j].1.length bs[j].1.length) ∧ C'[j * 2 + 1]? = some (.slice (some ⟨b2, 0, none⟩) bs[j].2.length bs[j].2.length) ∧ w.heap.size < b1 ∧ w.heap.size < b2 ∧ Row wr b1 bs[j].1 ∧ Row wr b2 bs[j].2) ∧ w.heap.size < wr.heap.size ∧ Below w.heap.size w wr) (fun i _ => bs.length - (intOf i).toNat)
  case atStart => exact ⟨0, C, Nat.zero_le _, rfl, HR0.out, HC.out, fun j hj h => absurd h (by omega), HZ0.out, HB0.out⟩
  case round =>
    obtain ⟨k, C', hk, rfl, hrow, hsz, hall, hws, hbel⟩ := hrel
    have Hall := Lib.hid hall; have Hsz := Lib.hid hsz
    have Hrow := Lib.hid hrow; have Hbel := Lib.hid hbel
    clear hall hsz
    by_cases hlt : k < bs.length
    · obtain ⟨b, o, u1, u2, rfl, hb, hc1, hc2, hr1, hr2⟩ := Hx.out k hlt
      have Hr1 := Lib.hid (hr1.at hB hbel); have Hr2 := Lib.hid (hr2.at hB hbel)
      have Hld := Lib.hid (run_load_cells (P := Try.prog) wr b (o + k * 2) 70 _ [u1, u2] (two_cells (by rw [hbel.cell (show b < _ from by omega)]; exact hc1) (by rw [hbel.cell (show b < _ from by omega)]; exact hc2)) Try.underlying70 (by kernel_rfl))
      clear hc1 hc2 hbel hr1 hr2 hrow
      go_wp2_with (refine wpList_load_agg rfl 70 (.tmp 18) rfl _ rfl _ Hld.out ?_)
      refine (toBox_any Hr1.out Hr2.out (Nat.le_refl _) (Hs.out.2 _ (List.getElem_mem hlt))).mono ?_
      rintro e w1 ⟨rfl, hq1, hq2, hz, hb1⟩
      have hz1 := hb1.size
      have Hrow1 : Hid (w1.heap[w.heap.size]? = some (.cells C' 43 (0, 0))) := Lib.hid (by rw [hb1.block _ hws]; exact Hrow.out)
      have Hth : Hid (w1.there w.heap.size (k * 2) 2) := Lib.hid (there_row Hrow1.out (by rw [Hsz.out]; omega))
      have Hnew := Lib.hid (heap_setCells2 (o := k * 2) (.slice (some ⟨wr.heap.size + 3, 0, none⟩) bs[k].1.length bs[k].1.length) (.slice (some ⟨wr.heap.size + 4, 0, none⟩) bs[k].2.length bs[k].2.length) Hrow1.out)
      have Hb2 : Hid (Below w.heap.size w (w1.setCells w.heap.size (k * 2) [.slice (some ⟨wr.heap.size + 3, 0, none⟩) bs[k].1.length bs[k].1.length, .slice (some ⟨wr.heap.size + 4, 0, none⟩) bs[k].2.length bs[k].2.length])) := Lib.hid (below_setCells (Nat.le_refl _) _ _ (Hbel.out.trans (hb1.mono (by omega))))
      have Hz2 : Hid (w.heap.size < (w1.setCells w.heap.size (k * 2) [.slice (some ⟨wr.heap.size + 3, 0, none⟩) bs[k].1.length bs[k].1.length, .slice (some ⟨wr.heap.size + 4, 0, none⟩) bs[k].2.length bs[k].2.length]).heap.size) := Lib.hid (by rw [size_setCells]; omega)
      have Hall2 : Hid (∀ j (hj : j < bs.length), j < k + 1 → ∃ b1 b2, ((C'.setIfInBounds (k * 2) (.slice (some ⟨wr.heap.size + 3, 0, none⟩) bs[k].1.length bs[k].1.length)).setIfInBounds (k * 2 + 1) (.slice (some ⟨wr.heap.size + 4, 0, none⟩) bs[k].2.length bs[k].2.length))[j * 2]? = some (.slice (some ⟨b1, 0, none⟩) bs[j].1.length bs[j].1.length) ∧ ((C'.setIfInBounds (k * 2) (.slice (some ⟨wr.heap.size + 3, 0, none⟩) bs[k].1.length bs[k].1.length)).setIfInBounds (k * 2 + 1) (.slice (some ⟨wr.heap.size + 4, 0, none⟩) bs[k].2.length bs[k].2.length))[j * 2 + 1]? = some (.slice (some ⟨b2, 0, none⟩) bs[j].2.length bs[j].2.length) ∧ w.heap.size < b1 ∧ w.heap.size < b2 ∧ Row (w1.setCells w.heap.size (k * 2) [.slice (some ⟨wr.heap.size + 3, 0, none⟩) bs[k].1.length bs[k].1.length, .slice (some ⟨wr.heap.size + 4, 0, none⟩) bs[k].2.length bs[k].2.length]) b1 bs[j].1 ∧ Row (w1.setCells w.heap.size (k * 2) [.slice (some ⟨wr.heap.size + 3, 0, none⟩) bs[k].1.length bs[k].1.length, .slice (some ⟨wr.heap.size + 4, 0, none⟩) bs[k].2.length bs[k].2.length]) b2 bs[j].2) := Lib.hid (fun j hj hjk => by
        have hsz := Hsz.out
        by_cases e : k = j
        · subst e
          refine ⟨wr.heap.size + 3, wr.heap.size + 4, ?_, ?_, by omega, by omega, hq1.cells (by omega) _ _, hq2.cells (by omega) _ _⟩
          · rw [Array.getElem?_setIfInBounds, if_neg (by omega), Array.getElem?_setIfInBounds, if_pos rfl, if_pos (by omega)]
          · rw [Array.getElem?_setIfInBounds, if_pos rfl, if_pos (by rw [Array.size_setIfInBounds]; omega)]
        · obtain ⟨b1, b2, h1, h2, h3, h4, h5, h6⟩ := Hall.out j hj (by omega)
          refine ⟨b1, b2, ?_, ?_, h3, h4, (h5.below hb1).cells (by omega) _ _, (h6.below hb1).cells (by omega) _ _⟩
          · rw [Array.getElem?_setIfInBounds, if_neg (by omega), Array.getElem?_setIfInBounds, if_neg (by omega)]; exact h1
          · rw [Array.getElem?_setIfInBounds, if_neg (by omega), Array.getElem?_setIfInBounds, if_neg (by omega)]; exact h2)
      clear hq1 hq2 hz hb1
      go_wp2_with (refine wpList_store_mid rfl 43 (.tmp 21) (.tmp 20) rfl _ (k * 2) #[.slice (some ⟨wr.heap.size + 3, 0, none⟩) bs[k].1.length bs[k].1.length, .slice (some ⟨wr.heap.size + 4, 0, none⟩) bs[k].2.length bs[k].2.length] rfl rfl Hth.out (by kernel_rfl) (by simp [Value.oneCell']) ?_)
      go_roundw
      case rel => exact ⟨k + 1, _, by omega, by go_num, Hnew.out, by simp [Hsz.out], Hall2.out, Hz2.out, Hb2.out⟩
      case measure => simp [intOf]; omega
    · have HP : Hid (BRow wr w.heap.size (.slice (some ⟨w.heap.size, 0, none⟩) bs.length bs.length) bs) := Lib.hid ⟨w.heap.size, C', rfl, Nat.le_refl _, hrow, Hsz.out, fun j hj => by
        obtain ⟨b1, b2, h1, h2, h3, h4, h5, h6⟩ := Hall.out j hj (by omega)
        exact ⟨b1, b2, h1, h2, by omega, by omega, h5, h6⟩⟩
      clear hrow hbel
      go_wp2
      go_ret
      exact ⟨rfl, HP.out, trivial, Hbel.out⟩
theorem toBoxes_rd {B : Nat} {w : World} {v : Value} {bs : List Bx} (h : RiB B w v bs) (hB : B ≤ w.heap.size) (hs : SmB bs) :
    Calls Try.prog 22 #[v] w fun e w' => ∃ A1 : Option Addr, e = .returned (.slice A1 bs.length bs.length) ∧ RiB w'.heap.size w' (.slice A1 bs.length bs.length) bs ∧ Below w.heap.size w w' :=
  (toBoxes_any h hB hs).mono fun e w' ⟨he, r, _, g⟩ => ⟨_, he, r.rib hs h.inI, g⟩
set_option maxHeartbeats 1000000 in
set_option maxRecDepth 100000 in
theorem eqBoxes_any {B : Nat} {w : World} {v1 v2 : Value} {bs : List Bx} (h1 : RiB B w v1 bs) (h2 : RiB B w v2 bs) (hB : B ≤ w.heap.size) :
    Calls Try.prog 25 #[v1, v2] w (GivesB (.bool true) w) := by
  obtain ⟨A1, c1, rfl, hl1, hm1, hx1⟩ := h1
  obtain ⟨A2, c2, rfl, hl2, hm2, hx2⟩ := h2
  have Hx1 := Lib.hid hx1; have Hx2 := Lib.hid hx2; clear hx1 hx2
  unfold maxLen at hm1 hm2
  go_enter Try.func25, Try.ntmps25
  go_wp2
  go_loopw [5] (fun i wr => ∃ k : Nat, k ≤ bs.length ∧ i = .int .i64 k ∧ Below w.heap.size w wr) (fun i _ => bs.length - (intOf i).toNat)
  case atStart => exact ⟨0, Nat.zero_le _, rfl, Below.refl _ _⟩
  case round =>
    obtain ⟨k, hk, rfl, hbel⟩ := hrel
    by_cases hlt : k < bs.length
    · obtain ⟨b1, o1, u1, x1, rfl, hb1, hq1, hp1, hr1, hs1⟩ := Hx1.out k hlt
      obtain ⟨b2, o2, u2, x2, rfl, hb2, hq2, hp2, hr2, hs2⟩ := Hx2.out k hlt
      have hbw : Below wr.heap.size wr (wr.drewN 1) := below_draws (Below.refl _ _) 1
      have hbW : Below w.heap.size w (wr.drewN 1) := hbel.trans (hbw.mono hbel.size)
      have Hr1 := Lib.hid (hr1.at hB hbW)
      have Hr2 := Lib.hid (hr2.at hB hbW)
      have Hs1 := Lib.hid (hs1.at hB hbW)
      have Hs2 := Lib.hid (hs2.at hB hbW)
      have Hbel := Lib.hid hbel; have Hbw := Lib.hid hbw
      have G1 := Lib.hid (run_load_cells (P := Try.prog) (wr.drewN 1) b1 (o1 + k * 2) 43 _ [u1, x1] (two_cells (by rw [hbW.cell (show b1 < _ from by omega)]; exact hq1) (by rw [hbW.cell (show b1 < _ from by omega)]; exact hp1)) Try.underlying43 (by kernel_rfl))
      have G2 := Lib.hid (run_load_cells (P := Try.prog) (wr.drewN 1) b2 (o2 + k * 2) 43 _ [u2, x2] (two_cells (by rw [hbW.cell (show b2 < _ from by omega)]; exact hq2) (by rw [hbW.cell (show b2 < _ from by omega)]; exact hp2)) Try.underlying43 (by kernel_rfl))
      clear hq1 hq2 hp1 hp2 hbel hbw hbW hr1 hr2 hs1 hs2
      go_wp2
      refine wp_region_still_tail 8 (by kernel_rfl) (by kernel_rfl) ?_
      simp only [List.take_succ_cons, List.take_zero, List.drop_succ_cons, List.drop_zero]
      still_step
      still_step
      still_step
      refine wpStill_load rfl 43 (.tmp 19) rfl _ rfl _ G1.out ?_
      still_step
      still_step
      still_step
      refine wpStill_load rfl 43 (.tmp 23) rfl _ rfl _ G2.out ?_
      refine wpStill_nil ?_
      go_wp2_with fail
      refine (eqBox_any Hr1.out Hs1.out Hr2.out Hs2.out (Nat.le_refl _)).mono ?_
      rintro e w1 ⟨rfl, hb1⟩
      have Hb1 : Hid (Below w.heap.size w w1) := Lib.hid (Hbel.out.trans ((Hbw.out.trans (hb1.mono Hbw.out.size)).mono Hbel.out.size))
      clear hb1
      go_wp2
      go_roundw
      case rel => exact ⟨k + 1, by omega, by go_num, Hb1.out⟩
      case measure => simp [intOf]; omega
    · go_wp2
      go_ret
      exact ⟨rfl, hbel⟩
end Go.Proofs.Ytbghekgghiamcaa
