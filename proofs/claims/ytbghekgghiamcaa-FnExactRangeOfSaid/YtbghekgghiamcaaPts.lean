/- Lists of points and selections in memory; contracts of the laws' functions that bound, copy and compare them. No statement is proved here. -/
import Derived.Test.YtbghekgghiamcaaPre
namespace Go.Proofs.Ytbghekgghiamcaa
open Go.RowKit
set_option linter.unusedVariables false
/-- A slice of points that reads as these lists, below block B. -/
def RiP (B : Nat) (w : World) (v : Value) (ps : List (List Int)) : Prop := ∃ (A : Option Addr) (cap : Nat), v = .slice A ps.length cap ∧ ps.length ≤ cap ∧ cap ≤ maxLen ∧
  ∀ (i : Nat) (hi : i < ps.length), ∃ (b o : Nat) (u : Value), A = some ⟨b, o, none⟩ ∧ b < B ∧ w.cell? ⟨b, o + i, none⟩ = some u ∧ Ri B w u ps[i]
theorem RiP.up {B B' : Nat} {w w' : World} {v : Value} {ps : List (List Int)} (h : RiP B w v ps) (hB : B ≤ B') (hw : Below B w w') : RiP B' w' v ps := by
  obtain ⟨A, cap, hv, h1, h2, h3⟩ := h
  refine ⟨A, cap, hv, h1, h2, fun i hi => ?_⟩
  obtain ⟨b, o, u, hA, hb, hc, hI⟩ := h3 i hi
  exact ⟨b, o, u, hA, by omega, by rw [hw.cell hb]; exact hc, hI.up hB hw⟩
theorem RiP.at {B : Nat} {w w' : World} {v : Value} {ps : List (List Int)} (h : RiP B w v ps) (hB : B ≤ w.heap.size) (hw : Below w.heap.size w w') : RiP w'.heap.size w' v ps :=
  (h.up (Nat.le_refl _) (hw.mono hB)).up (Nat.le_trans hB hw.size) (Below.refl _ _)
theorem Rd.rip {f B : Nat} {w : World} {v : Value} {d : D} (h : Rd f B w (.sl .pnt) v d) : ∃ ps : List (List Int), RiP B w v ps := by
  obtain ⟨f', rows, A, cap, _, _, rfl, hl, hc, hx⟩ := Rd.sl h
  have each : ∀ i, i < rows.length → ∃ x : List Int, ∃ (b o : Nat) (u : Value), A = some ⟨b, o, none⟩ ∧ b < B ∧ w.cell? ⟨b, o + i, none⟩ = some u ∧ Ri B w u x := by
    intro i hi
    obtain ⟨b, o, cs, hA, hb, hc, hd⟩ := hx i rows[i] (List.getElem?_eq_getElem hi)
    generalize rows[i] = row at *
    obtain ⟨c, d, vs', ds', rfl, rfl, hd1, hn⟩ := RdsOf.cons hd
    obtain ⟨rfl, rfl⟩ := RdsOf.nil hn
    obtain ⟨x, hx⟩ := Rd.ri hd1
    refine ⟨x, b, o, c, hA, hb, ?_, hx⟩
    have := hc 0 _ rfl
    rwa [show (tab .pnt).length = 1 from rfl, Nat.mul_one, Nat.add_zero] at this
  obtain ⟨xs, hl2, hx2⟩ := list_of rows.length each
  exact ⟨xs, A, cap, by rw [hl2], by omega, hc, fun i hi => hx2 i hi⟩
/-- A slice of points of one's own, with the block of each point's list. -/
def PRow (w : World) (lo : Nat) (v : Value) (ps : List (List Int)) : Prop := ∃ (b : Nat) (C : Array Value), v = .slice (some ⟨b, 0, none⟩) ps.length ps.length ∧ lo ≤ b ∧ w.heap[b]? = some (.cells C 66 (0, 0)) ∧ C.size = ps.length ∧
  ∀ (j : Nat) (hj : j < ps.length), ∃ bj, C[j]? = some (.slice (some ⟨bj, 0, none⟩) ps[j].length ps[j].length) ∧ lo ≤ bj ∧ Row w bj ps[j]
theorem PRow.setCell {w : World} {lo b' : Nat} {v : Value} {ps : List (List Int)} (h : PRow w lo v ps) (hlt : b' < lo) (o : Nat) (u : Value) : PRow (w.setCell ⟨b', o, none⟩ u) lo v ps := by
  obtain ⟨b, C, hv, hl, hr, hs, hj⟩ := h
  refine ⟨b, C, hv, hl, ?_, hs, fun j h => ?_⟩
  · rw [heap_setCell_other w ⟨b', o, none⟩ b u (by show b ≠ b'; omega)]; exact hr
  · obtain ⟨bj, h1, h2, h3⟩ := hj j h
    exact ⟨bj, h1, h2, h3.setCell (by omega) _ _⟩
theorem PRow.setRow {w : World} {lo b' : Nat} {v : Value} {ps : List (List Int)} (h : PRow w lo v ps) (hlt : b' < lo) (cs : Array Value) : PRow (w.setRow b' cs) lo v ps := by
  obtain ⟨b, C, hv, hl, hr, hs, hj⟩ := h
  refine ⟨b, C, hv, hl, ?_, hs, fun j h => ?_⟩
  · rw [setRow_other w b' b cs (by omega)]; exact hr
  · obtain ⟨bj, h1, h2, h3⟩ := hj j h
    exact ⟨bj, h1, h2, h3.setRow (by omega) _⟩
theorem PRow.rip {w : World} {lo : Nat} {v : Value} {ps : List (List Int)} (h : PRow w lo v ps) (hl : ps.length ≤ maxLen) (hs : ∀ p ∈ ps, p.length ≤ maxLen) (hi : ∀ p ∈ ps, ∀ x ∈ p, InI x) : RiP w.heap.size w v ps := by
  obtain ⟨b, C, rfl, _, hr, hsz, hj⟩ := h
  refine ⟨_, _, rfl, Nat.le_refl _, hl, fun i h => ?_⟩
  obtain ⟨bj, h1, h2, h3⟩ := hj i h
  have hb : b < w.heap.size := by
    rcases Nat.lt_or_ge b w.heap.size with hl | hl
    · exact hl
    · rw [Array.getElem?_eq_none hl] at hr; cases hr
  exact ⟨b, 0, _, rfl, hb, by rw [cell_of_row _ _ _ _ _ _ hr, Nat.zero_add]; exact h1, h3.ri h3.lt (hi _ (List.getElem_mem h)) (hs _ (List.getElem_mem h))⟩
theorem RiP.inI {B : Nat} {w : World} {v : Value} {ps : List (List Int)} (h : RiP B w v ps) : ∀ p ∈ ps, ∀ x ∈ p, InI x := by
  obtain ⟨A, cap, hv, h1, h2, h3⟩ := h
  intro p hp
  obtain ⟨i, hi, rfl⟩ := List.getElem_of_mem hp
  obtain ⟨b, o, u, hA, hb, hc, hI⟩ := h3 i hi
  exact hI.inI
set_option maxHeartbeats 400000 in
theorem szPoint_any {B : Nat} {w : World} {v : Value} {xs : List Int} (h : Ri B w v xs) (hB : B ≤ w.heap.size) (L : Int) (h0 : 0 ≤ L) (h1 : L ≤ 1048576) :
    Calls Try.prog 69 #[.agg #[v], .int .i64 L] w (Left L (xs.length ≤ 1048576) w) := by
  have H := Lib.hid h
  obtain ⟨A, cap, rfl, _⟩ := h
  have Hb0 : Hid (Below w.heap.size w (w.alloc (.cells #[.slice A xs.length cap] 90))) := Lib.hid ((Below.refl _ w).alloc (Nat.le_refl _) _)
  generalize hP : (xs.length ≤ 1048576) = P at *
  have HP := Lib.hid hP; clear hP
  go_enter Try.func69, Try.ntmps69
  go_wp2_with fail
  refine (szI_any (H.out.at hB Hb0.out) L h0 h1).mono ?_
  rintro e w1 ⟨n1, rfl, hn1, hn1L, hp1, hbel1⟩
  have Hp1 : Hid (0 ≤ n1 → P) := Lib.hid (fun h => HP.out ▸ hp1 h); clear hp1
  have Hb1 : Hid (Below w.heap.size w w1) := Lib.hid (Hb0.out.trans (hbel1.mono Hb0.out.size))
  clear hbel1
  by_cases hneg : n1 < 0
  · go_wp2_with fail
    go_ret
    exact ⟨-1, rfl, by omega, by omega, by omega, Hb1.out⟩
  go_wp2_with fail
  go_ret
  exact ⟨n1, rfl, by omega, by omega, fun h => Hp1.out h, Hb1.out⟩
set_option maxHeartbeats 400000 in
set_option maxRecDepth 100000 in
theorem szPoints_any {B : Nat} {w : World} {v : Value} {ps : List (List Int)} (h : RiP B w v ps) (hB : B ≤ w.heap.size) (L : Int) (h0 : 0 ≤ L) (h1 : L ≤ 1048576) :
    Calls Try.prog 43 #[v, .int .i64 L] w (Left L (ps.length ≤ 1048576 ∧ ∀ p ∈ ps, p.length ≤ 1048576) w) := by
  obtain ⟨A, cap, rfl, hl, hc, hx⟩ := h
  have hs : ps.length ≤ 1048576 → (∀ j (hj : j < ps.length), ps[j].length ≤ 1048576) → (ps.length ≤ 1048576 ∧ ∀ p ∈ ps, p.length ≤ 1048576) := fun h h2 => ⟨h, fun p hp => by
    obtain ⟨j, hj, rfl⟩ := List.getElem_of_mem hp
    exact h2 j hj⟩
  generalize (ps.length ≤ 1048576 ∧ ∀ p ∈ ps, p.length ≤ 1048576) = P at *
  unfold maxLen at hc
  have Hs := Lib.hid hs; have Hx := Lib.hid hx; clear hs hx
  by_cases hn : L < (ps.length : Int)
  · go_enter Try.func43, Try.ntmps43
    go_wp2
    go_ret
    exact ⟨-1, rfl, by omega, by omega, by omega, Below.refl _ _⟩
  · go_enter Try.func43, Try.ntmps43
    go_wp2
    go_loopw [1, 5] (fun l i wr => ∃ k : Nat, ∃ n : Int, k ≤ ps.length ∧ i = .int .i64 k ∧ l = .int .i64 n ∧ 0 ≤ n ∧ n ≤ L ∧ Below w.heap.size w wr ∧ ∀ j (hj : j < ps.length), j < k → ps[j].length ≤ 1048576) (fun _ i _ => ps.length - (intOf i).toNat)
    case atStart => exact ⟨0, _, Nat.zero_le _, rfl, rfl, by omega, by omega, Below.refl _ _, fun j hj h => absurd h (by omega)⟩
    case round =>
      obtain ⟨k, n, hk, rfl, rfl, hn0, hnL, hbel, hall⟩ := hrel
      have Hall := Lib.hid hall; clear hall
      have Hbel := Lib.hid hbel
      have hsz := hbel.size
      by_cases hlt : k < ps.length
      · obtain ⟨b, o, u, rfl, hb, hcell, hri⟩ := Hx.out k hlt
        have hcell2 : wr.cell? ⟨b, o + k, none⟩ = some u := by rw [hbel.cell (p := ⟨b, o + k, none⟩) (show b < _ from by omega)]; exact hcell
        have Hri := Lib.hid (hri.at hB hbel)
        obtain ⟨A', cap', rfl, _⟩ := hri
        clear hcell hbel
        go_wp2_with fail
        refine (szPoint_any Hri.out (Nat.le_refl _) n hn0 (by omega)).mono ?_
        rintro e w1 ⟨n1, rfl, hn1, hn1L, hp1, hbel1⟩
        have Hp1 := Lib.hid hp1; clear hp1
        have Hbel2 := Lib.hid (Hbel.out.trans (hbel1.mono hsz))
        clear hbel1 hcell2
        by_cases hneg : n1 < 0
        · go_wp2
          go_ret
          exact ⟨-1, rfl, by omega, by omega, by omega, Hbel2.out⟩
        · have Hall2 : Hid (∀ j (hj : j < ps.length), j < k + 1 → ps[j].length ≤ 1048576) := Lib.hid (fun j hj hjk => by
            rcases Nat.lt_or_ge j k with h | h
            · exact Hall.out j hj h
            · obtain rfl : j = k := by omega
              exact Hp1.out (by omega))
          go_wp2
          go_roundw
          case rel => exact ⟨k + 1, n1, by omega, by go_num, rfl, by omega, by omega, Hbel2.out, Hall2.out⟩
          case measure => simp [intOf]; omega
      · have Hp : Hid P := Lib.hid (Hs.out (by omega) (fun j hj => Hall.out j hj (by omega)))
        clear hbel
        go_wp2
        go_ret
        exact ⟨n, rfl, by omega, by omega, fun _ => Hp.out, Hbel.out⟩

set_option maxHeartbeats 1000000 in
set_option maxRecDepth 100000 in
theorem toPoint_raw {B : Nat} {w : World} {v0 : Value} {xs0 : List Int} (h0 : Ri B w v0 xs0) (hB : B ≤ w.heap.size) (hs : xs0.length ≤ 1048576) :
    Calls Try.prog 70 #[.agg #[v0]] w fun e w' => e = .returned (.agg #[.slice (some ⟨w.heap.size + 3, 0, none⟩) xs0.length xs0.length]) ∧ Row w' (w.heap.size + 3) xs0 ∧ Below w.heap.size w w' := by
  have H0 := Lib.hid h0; obtain ⟨A0, c0, rfl, _⟩ := h0
  have Hs := Lib.hid hs; clear hs
  have Tri0 := Lib.hid (Tri.start w 90 66 #[.slice A0 xs0.length c0] #[.slice none 0 0] #[.slice none 0 0])
  have Z0 : Hid ((((w.alloc (.cells #[.slice A0 xs0.length c0] 90)).alloc (.cells #[.slice none 0 0] 66)).alloc (.cells #[.slice none 0 0] 66)).heap.size = w.heap.size + 3) := Lib.hid (by simp)
  go_enter Try.func70, Try.ntmps70
  go_wp2_with fail
  generalize (((w.alloc (.cells #[.slice A0 xs0.length c0] 90)).alloc (.cells #[.slice none 0 0] 66)).alloc (.cells #[.slice none 0 0] 66)) = W0 at *
  refine (toI_any (H0.out.at hB Tri0.out.2.2.2.1) (Nat.le_refl _) Hs.out).mono ?_
  rintro e w1 ⟨rfl, r, z, g⟩
  have tri := Tri0.out.after g
  have R0_0 : Hid (Row w1 (w.heap.size + 3) xs0) := Lib.hid (Z0.out ▸ r)
  have Y1 : Hid (w1.heap.size = w.heap.size + 4) := Lib.hid (by rw [z, Z0.out])
  have q1 := trivial
  have q2 := tri.out 0 _ rfl
  have q3 := tri.free 0
  have Tri1 : Hid (Tri w (w1.setCell ⟨w.heap.size + 1 + 1, 0, none⟩ (.slice (some ⟨W0.heap.size, 0, none⟩) xs0.length xs0.length)) 90 66 #[.slice A0 xs0.length c0] #[.slice none 0 0] #[.slice (some ⟨W0.heap.size, 0, none⟩) xs0.length xs0.length]) := Lib.hid (tri.set 0 _)
  have R0_0s : Hid (Row (w1.setCell ⟨w.heap.size + 1 + 1, 0, none⟩ (.slice (some ⟨W0.heap.size, 0, none⟩) xs0.length xs0.length)) (w.heap.size + 3) xs0) := Lib.hid (R0_0.out.setCell (by omega) _ _)
  have Z1 : Hid ((w1.setCell ⟨w.heap.size + 1 + 1, 0, none⟩ (.slice (some ⟨W0.heap.size, 0, none⟩) xs0.length xs0.length)).heap.size = w.heap.size + 4) := Lib.hid (by simp [World.setCell, Y1.out])
  clear r z g tri
  have Hi9 : Hid ((Try.prog.info? 66).map (·.size) = some (#[.slice (some ⟨W0.heap.size, 0, none⟩) xs0.length xs0.length] : Array Value).size) := Lib.hid (by kernel_rfl)
  have H19 : Hid ((#[.slice (some ⟨W0.heap.size, 0, none⟩) xs0.length xs0.length] : Array Value).all (·.oneCell') = true) := Lib.hid (by simp [Value.oneCell'])
  go_wp2_with (first | (refine wpList_load_row rfl 66 (.tmp 3) rfl _ rfl 66 _ (0, 0) _ Tri1.out.2.2.1 Try.underlying66 rfl (by kernel_rfl) ?_) | (refine wpList_store_row rfl 66 (.tmp 2) (.tmp 8) rfl (w.heap.size + 1) #[.slice (some ⟨W0.heap.size, 0, none⟩) xs0.length xs0.length] rfl rfl 66 #[.slice none 0 0] Tri1.out.2.1 Hi9.out rfl H19.out ?_))
  refine bodyPost_ret (v := .agg #[.slice (some ⟨W0.heap.size, 0, none⟩) xs0.length xs0.length]) ?h1 ?h2 ?h3
  case h2 => rfl
  case h1 => exact results_cell_row rfl _ _ (w.heap.size + 1) 66 _ (0, 0) _ rfl (setRow_heap _ _ _ _ _ _ Tri1.out.2.1) Try.underlying66 rfl (by kernel_rfl)
  case h3 =>
    clear q1 q2 q3
    have hw := below_setRow Tri1.out.2.2.2.1 (show w.heap.size ≤ w.heap.size + 1 from by omega) #[.slice (some ⟨W0.heap.size, 0, none⟩) xs0.length xs0.length]
    refine ⟨by rw [Z0.out], R0_0s.out.setRow (by omega) _, hw⟩
theorem toPoint_any {B : Nat} {w : World} {v : Value} {xs : List Int} (h : Ri B w v xs) (hB : B ≤ w.heap.size) (hs : xs.length ≤ 1048576) :
    Calls Try.prog 70 #[.agg #[v]] w fun e w' => e = .returned (.agg #[.slice (some ⟨w.heap.size + 3, 0, none⟩) xs.length xs.length]) ∧ Row w' (w.heap.size + 3) xs ∧ Below w.heap.size w w' := toPoint_raw h hB hs
theorem there_row {w : World} {b o n : Nat} {C : Array Value} {t : TypeId} (h : w.heap[b]? = some (.cells C t (0, 0))) (hn : o + n ≤ C.size) : w.there b o n := fun j hj =>
  ⟨by rw [cell_of_row _ _ _ _ _ _ h, Array.getElem?_eq_getElem (by omega)]; rfl, frozen_of_row _ _ _ _ _ h⟩
theorem Try.infoP : (Try.prog.info? 66).map (fun i => (i.zero.isSome, i.size, i.bytes)) = some (true, 1, 24) := by kernel_rfl
set_option maxHeartbeats 1000000 in
set_option maxRecDepth 100000 in
theorem toPoints_any {B : Nat} {w : World} {v : Value} {ps : List (List Int)} (h : RiP B w v ps) (hB : B ≤ w.heap.size) (hs : ps.length ≤ 1048576 ∧ ∀ p ∈ ps, p.length ≤ 1048576) :
    Calls Try.prog 46 #[v] w fun e w' => e = .returned (.slice (some ⟨w.heap.size, 0, none⟩) ps.length ps.length) ∧ PRow w' w.heap.size (.slice (some ⟨w.heap.size, 0, none⟩) ps.length ps.length) ps ∧ True ∧ Below w.heap.size w w' := by
  obtain ⟨A, cap, rfl, hl, hc, hx⟩ := h
  have hs1 := hs.1
  obtain ⟨C, hC, hmk⟩ := make_all (P := Try.prog) 23 66 ps.length 1 24 Try.underlying23 Try.infoP (by omega) (by omega)
  have Hx := Lib.hid hx; have HC := Lib.hid hC; have Hs := Lib.hid hs
  clear hx hC hs
  unfold maxLen at hc
  have HB0 : Hid (Below w.heap.size w (w.alloc (.cells C 66))) := Lib.hid ((Below.refl _ w).alloc (Nat.le_refl _) _)
  have HR0 : Hid ((w.alloc (.cells C 66)).heap[w.heap.size]? = some (.cells C 66 (0, 0))) := Lib.hid (heap_alloc_new w _)
  have HZ0 : Hid (w.heap.size < (w.alloc (.cells C 66)).heap.size) := Lib.hid (by simp)
  go_enter Try.func46, Try.ntmps46
  go_wp2
  go_loopw [4] (fun i wr => ∃ k : Nat, ∃ C' : Array Value, k ≤ ps.length ∧ i = .int .i64 k ∧ wr.heap[w.heap.size]? = some (.cells C' 66 (0, 0)) ∧ C'.size = ps.length ∧ (∀ j (hj : j < ps.length), j < k → ∃ bj, C'[j]? = some (.slice (some ⟨bj, 0, none⟩) ps[j].length ps[j].length) ∧ w.heap.size < bj ∧ Row wr bj ps[j]) ∧ w.heap.size < wr.heap.size ∧ Below w.heap.size w wr) (fun i _ => ps.length - (intOf i).toNat)
  case atStart => exact ⟨0, C, Nat.zero_le _, rfl, HR0.out, by rw [HC.out, Nat.mul_one], fun j hj h => absurd h (by omega), HZ0.out, HB0.out⟩
  case round =>
    obtain ⟨k, C', hk, rfl, hrow, hsz, hall, hws, hbel⟩ := hrel
    have Hall := Lib.hid hall; have Hsz := Lib.hid hsz
    have Hrow := Lib.hid hrow; have Hbel := Lib.hid hbel
    clear hall hsz
    by_cases hlt : k < ps.length
    · obtain ⟨b, o, u, rfl, hb, hcell, hri⟩ := Hx.out k hlt
      have hcell2 : wr.cell? ⟨b, o + k, none⟩ = some u := by rw [hbel.cell (p := ⟨b, o + k, none⟩) (show b < _ from by omega)]; exact hcell
      have Hri := Lib.hid (hri.at hB hbel)
      obtain ⟨A', cap', rfl, _⟩ := hri
      clear hcell hbel hrow
      go_wp2_with fail
      refine (toPoint_any Hri.out (Nat.le_refl _) (Hs.out.2 _ (List.getElem_mem hlt))).mono ?_
      rintro e w1 ⟨rfl, hr1, hb1⟩
      have hz1 := hb1.size
      have Hr1 := Lib.hid hr1
      have Hrow1 : Hid (w1.heap[w.heap.size]? = some (.cells C' 66 (0, 0))) := Lib.hid (by rw [hb1.block _ hws]; exact Hrow.out)
      obtain ⟨u2, hu0⟩ : ∃ u2, C'[k]? = some u2 := ⟨_, Array.getElem?_eq_getElem (by rw [Hsz.out]; exact hlt)⟩
      have hu : w1.cell? ⟨w.heap.size, k, none⟩ = some u2 := by rw [cell_of_row _ _ _ _ _ _ Hrow1.out]; exact hu0
      have hfz : w1.frozen? ⟨w.heap.size, k, none⟩ = false := frozen_of_row _ _ _ _ _ Hrow1.out
      have Hnew : Hid ((w1.setCell ⟨w.heap.size, k, none⟩ (.slice (some ⟨wr.heap.size + 3, 0, none⟩) ps[k].length ps[k].length)).heap[w.heap.size]? = some (.cells (C'.setIfInBounds k (.slice (some ⟨wr.heap.size + 3, 0, none⟩) ps[k].length ps[k].length)) 66 (0, 0))) := Lib.hid (heap_setCell_same _ _ _ _ _ _ Hrow1.out)
      have Hb2 : Hid (Below w.heap.size w (w1.setCell ⟨w.heap.size, k, none⟩ (.slice (some ⟨wr.heap.size + 3, 0, none⟩) ps[k].length ps[k].length))) := Lib.hid ((Hbel.out.trans (hb1.mono (by omega))).setCell (p := ⟨w.heap.size, k, none⟩) (Nat.le_refl _) _)
      have Hz2 : Hid (w.heap.size < (w1.setCell ⟨w.heap.size, k, none⟩ (.slice (some ⟨wr.heap.size + 3, 0, none⟩) ps[k].length ps[k].length)).heap.size) := Lib.hid (by simp [World.setCell]; omega)
      have Hall2 : Hid (∀ j (hj : j < ps.length), j < k + 1 → ∃ bj, (C'.setIfInBounds k (.slice (some ⟨wr.heap.size + 3, 0, none⟩) ps[k].length ps[k].length))[j]? = some (.slice (some ⟨bj, 0, none⟩) ps[j].length ps[j].length) ∧ w.heap.size < bj ∧ Row (w1.setCell ⟨w.heap.size, k, none⟩ (.slice (some ⟨wr.heap.size + 3, 0, none⟩) ps[k].length ps[k].length)) bj ps[j]) := Lib.hid (fun j hj hjk => by
        rw [Array.getElem?_setIfInBounds]
        by_cases e : k = j
        · subst e
          refine ⟨wr.heap.size + 3, by simp [Hsz.out, hlt], by omega, hr1.setCell (by omega) _ _⟩
        · rw [if_neg e]
          obtain ⟨bj, h1, h2, h3⟩ := Hall.out j hj (by omega)
          exact ⟨bj, h1, h2, (h3.below hb1).setCell (by omega) _ _⟩)
      have Hth : Hid (w1.there w.heap.size k 1) := Lib.hid (there_row Hrow1.out (by rw [Hsz.out]; omega))
      clear hu0 hr1 hb1 hcell2
      go_wp2_with (refine wpList_store_mid rfl 66 (.tmp 21) (.tmp 20) rfl _ k #[.slice (some ⟨wr.heap.size + 3, 0, none⟩) ps[k].length ps[k].length] rfl rfl Hth.out (by kernel_rfl) (by simp [Value.oneCell']) ?_)
      go_roundw
      case rel => exact ⟨k + 1, _, by omega, by go_num, Hnew.out, by simp [Hsz.out], Hall2.out, Hz2.out, Hb2.out⟩
      case measure => simp [intOf]; omega
    · have HP : Hid (PRow wr w.heap.size (.slice (some ⟨w.heap.size, 0, none⟩) ps.length ps.length) ps) := Lib.hid ⟨w.heap.size, C', rfl, Nat.le_refl _, hrow, Hsz.out, fun j hj => by
        obtain ⟨bj, h1, h2, h3⟩ := Hall.out j hj (by omega)
        exact ⟨bj, h1, by omega, h3⟩⟩
      clear hrow hbel
      go_wp2
      go_ret
      exact ⟨rfl, HP.out, trivial, Hbel.out⟩

end Go.Proofs.Ytbghekgghiamcaa
