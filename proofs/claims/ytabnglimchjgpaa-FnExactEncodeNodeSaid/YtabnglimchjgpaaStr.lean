/- Lists of strings in memory; contracts of the laws' functions that bound, copy and compare them; what a slice of one's own keeps. No statement is proved here. -/
import Derived.Test.YtabnglimchjgpaaPre
import Derived.Test.YtabnglimchjgpaaMrS
namespace Go.Proofs.Ytabnglimchjgpaa
open Go.RowKit
set_option linter.unusedVariables false
/-- A slice of one's own keeps its row where its block is as it was. -/
theorem own_same {w w' : World} {lo sz n : Nat} {T : TypeId} {v : Value} {vs : List Value} (h : w.ownsRow lo T sz v n vs) (hk : ∀ g, v.ownBlock = some g → w'.heap[g]? = w.heap[g]?) : w'.ownsRow lo T sz v n vs := by
  refine ⟨h.1, ?_⟩
  rcases h.2 with hn | ⟨g, cap, cur, rfl, hb, hgg, rest⟩
  · exact .inl hn
  · exact .inr ⟨g, cap, cur, rfl, hb, (hk g rfl).trans hgg, rest⟩
theorem own_lo {w : World} {lo lo' sz n : Nat} {T : TypeId} {v : Value} {vs : List Value} (h : w.ownsRow lo T sz v n vs) (hl : lo' ≤ lo) : w.ownsRow lo' T sz v n vs := by
  refine ⟨h.1, ?_⟩
  rcases h.2 with hn | ⟨g, cap, cur, rfl, hb, rest⟩
  · exact .inl hn
  · exact .inr ⟨g, cap, cur, rfl, by omega, rest⟩
theorem own_wi {w : World} {lo sz n : Nat} {T : TypeId} {v : Value} {vs : List Value} (h : w.ownsRow lo T sz v n vs) : Wi lo w.heap.size v := fun g hg => World.ownsRow.lt h g hg
theorem own_bel {w w' : World} {lo sz n : Nat} {T : TypeId} {v : Value} {vs : List Value} (h : w.ownsRow lo T sz v n vs) (hb : Below w.heap.size w w') : w'.ownsRow lo T sz v n vs := own_same h fun g hg => hb.block g (own_wi h g hg).2
theorem own_mv {w w' : World} {lo sz n l h2 : Nat} {T : TypeId} {v : Value} {vs : List Value} (h : w.ownsRow lo T sz v n vs) (hm : Mv l h2 w w') (hd : ∀ g, v.ownBlock = some g → g < l ∨ h2 ≤ g) : w'.ownsRow lo T sz v n vs :=
  own_same h fun g hg => hm.2.2.2.2 g (own_wi h g hg).2 (hd g hg)
theorem own_sl {w : World} {lo sz n : Nat} {T : TypeId} {v : Value} {vs : List Value} (h : w.ownsRow lo T sz v n vs) : (v = .slice none 0 0 ∧ n = 0) ∨ ∃ g cap, v = .slice (some ⟨g, 0, none⟩) n cap ∧ lo ≤ g ∧ g < w.heap.size ∧ n ≤ cap ∧ cap ≤ maxLen := by
  have hl := World.ownsRow.lt h
  rcases h.2 with ⟨rfl, h0⟩ | ⟨g, cap, cur, rfl, hb, hg, hn, hm, _⟩
  · exact .inl ⟨rfl, h0⟩
  · exact .inr ⟨g, cap, rfl, hb, (hl g rfl).2, hn, hm⟩
theorem own_frozen {w : World} {lo sz n g c m : Nat} {T : TypeId} {vs : List Value} (h : w.ownsRow lo T sz (.slice (some ⟨g, 0, none⟩) m c) n vs) (j : Nat) : w.frozen? ⟨g, j, none⟩ = false := by
  rcases h.2 with ⟨h0, _⟩ | ⟨g', cap', cur, he, hb, hgg, _⟩
  · cases h0
  · have e : g = g' := by simp only [Value.slice.injEq, Option.some.injEq, Addr.mk.injEq] at he; exact he.1.1
    subst e
    exact frozen_of_row _ _ _ _ _ hgg
/-- A slice that reads as a list of strings, below block B. -/
def RiT (B : Nat) (w : World) (v : Value) (xs : List ByteArray) : Prop := ∃ (A : Option Addr) (cap : Nat), v = .slice A xs.length cap ∧ xs.length ≤ cap ∧ cap ≤ maxLen ∧
  ∀ (i : Nat) (hi : i < xs.length), ∃ b o : Nat, A = some ⟨b, o, none⟩ ∧ b < B ∧ w.cell? ⟨b, o + i, none⟩ = some (.string xs[i]) ∧ xs[i].size ≤ maxLen
theorem RiT.up {B B' : Nat} {w w' : World} {v : Value} {xs : List ByteArray} (h : RiT B w v xs) (hB : B ≤ B') (hw : Below B w w') : RiT B' w' v xs := by
  obtain ⟨A, cap, hv, h1, h2, h3⟩ := h
  refine ⟨A, cap, hv, h1, h2, fun i hi => ?_⟩
  obtain ⟨b, o, hA, hb, hc, hI⟩ := h3 i hi
  exact ⟨b, o, hA, by omega, by rw [hw.cell hb]; exact hc, hI⟩
theorem RiT.at {B : Nat} {w w' : World} {v : Value} {xs : List ByteArray} (h : RiT B w v xs) (hB : B ≤ w.heap.size) (hw : Below w.heap.size w w') : RiT w'.heap.size w' v xs :=
  (h.up (Nat.le_refl _) (hw.mono hB)).up (Nat.le_trans hB hw.size) (Below.refl _ _)
theorem Rd.rit {f B : Nat} {w : World} {v : Value} {d : D} (h : Rd f B w (.sl .str) v d) : ∃ xs : List ByteArray, RiT B w v xs := by
  obtain ⟨f', xs, A, cap, _, _, rfl, hl, hc, hx⟩ := Rd.strs h
  exact ⟨xs, A, cap, rfl, hl, hc, hx⟩
theorem RiT.len {B : Nat} {w : World} {v : Value} {xs : List ByteArray} (h : RiT B w v xs) : ∀ x ∈ xs, x.size ≤ maxLen := by
  obtain ⟨A, cap, hv, h1, h2, h3⟩ := h
  intro x hx
  obtain ⟨i, hi, rfl⟩ := List.getElem_of_mem hx
  obtain ⟨b, o, hA, hb, hc, hI⟩ := h3 i hi
  exact hI
def cellsT (xs : List ByteArray) : Array Value := (xs.map Value.string).toArray
theorem cellsT_size (xs : List ByteArray) : (cellsT xs).size = xs.length := by simp [cellsT]
theorem cellsT_at (xs : List ByteArray) (i : Nat) (h : i < xs.length) : (cellsT xs)[i]? = some (.string xs[i]) := by simp [cellsT, h]
/-- A block that holds this list. -/
def RowT (w : World) (b : Nat) (xs : List ByteArray) : Prop := w.heap[b]? = some (.cells (cellsT xs) 9 (0, 0))
theorem RowT.lt {w : World} {b : Nat} {xs : List ByteArray} (h : RowT w b xs) : b < w.heap.size := by
  rcases Nat.lt_or_ge b w.heap.size with hl | hl
  · exact hl
  · unfold RowT at h; rw [Array.getElem?_eq_none hl] at h; cases h
theorem RowT.cell {w : World} {b : Nat} {xs : List ByteArray} (h : RowT w b xs) (i : Nat) (hi : i < xs.length) : w.cell? ⟨b, i, none⟩ = some (.string xs[i]) := by
  rw [cell_of_row _ _ _ _ _ _ h]; exact cellsT_at xs i hi
theorem RowT.rit {w : World} {b B : Nat} {xs : List ByteArray} (h : RowT w b xs) (hb : b < B) (hx : ∀ x ∈ xs, x.size ≤ maxLen) (hl : xs.length ≤ maxLen) : RiT B w (.slice (some ⟨b, 0, none⟩) xs.length xs.length) xs :=
  ⟨_, _, rfl, Nat.le_refl _, hl, fun i hi => ⟨b, 0, rfl, hb, by rw [Nat.zero_add]; exact h.cell i hi, hx _ (List.getElem_mem hi)⟩⟩
theorem RowT.below {w w' : World} {b : Nat} {xs : List ByteArray} (h : RowT w b xs) (hw : Below w.heap.size w w') : RowT w' b xs := by
  unfold RowT; rw [hw.block _ h.lt]; exact h
theorem RiT.nil (B : Nat) (w : World) : RiT B w (.slice none 0 0) [] := ⟨none, 0, rfl, Nat.le_refl _, by decide, fun i hi => by simp at hi⟩
theorem Try.infoT : (Try.prog.info? 9).map (fun i => (i.zero.isSome, i.size, i.bytes)) = some (true, 1, 16) := by kernel_rfl
/-- The call makes a copy of the list, in one new block. -/
def MadeT (xs : List ByteArray) (w : World) (e : Ending) (w' : World) : Prop := e = .returned (.slice (some ⟨w.heap.size, 0, none⟩) xs.length xs.length) ∧ RowT w' w.heap.size xs ∧ w'.heap.size = w.heap.size + 1 ∧ Below w.heap.size w w'
set_option maxHeartbeats 400000 in
theorem toT_any {B : Nat} {w : World} {v : Value} {xs : List ByteArray} (h : RiT B w v xs) (hB : B ≤ w.heap.size) (hs : xs.length ≤ 1048576) :
    Calls Try.prog 48 #[v] w (MadeT xs w) := by
  obtain ⟨A, cap, rfl, hl, hc, hx⟩ := h
  obtain ⟨C, hC, hmk⟩ := make_all (P := Try.prog) 22 9 xs.length 1 16 Try.underlying22 Try.infoT (by omega) (by omega)
  have Hx := Lib.hid hx; have HC := Lib.hid hC
  clear hx hC
  have HB0 : Hid (Below w.heap.size w (w.alloc (.cells C 9))) := Lib.hid ((Below.refl _ w).alloc (Nat.le_refl _) _)
  have HR0 : Hid ((w.alloc (.cells C 9)).heap[w.heap.size]? = some (.cells C 9 (0, 0))) := Lib.hid (heap_alloc_new w _)
  go_enter Try.func48, Try.ntmps48
  go_wp2
  go_loopw [4] (fun i wr => ∃ k : Nat, ∃ C' : Array Value, k ≤ xs.length ∧ i = .int .i64 k ∧ wr.heap[w.heap.size]? = some (.cells C' 9 (0, 0)) ∧ C'.size = xs.length ∧ (∀ j (hj : j < xs.length), j < k → C'[j]? = some (.string xs[j])) ∧ wr.heap.size = w.heap.size + 1 ∧ Below w.heap.size w wr) (fun i _ => xs.length - (intOf i).toNat)
  case atStart => exact ⟨0, C, Nat.zero_le _, rfl, HR0.out, by rw [HC.out, Nat.mul_one], fun j hj h => absurd h (by omega), by simp, HB0.out⟩
  case round =>
    obtain ⟨k, C', hk, rfl, hrow, hsz, hall, hws, hbel⟩ := hrel
    have Hall := Lib.hid hall; have Hsz := Lib.hid hsz
    have Hws := Lib.hid hws
    clear hall hsz
    by_cases hlt : k < xs.length
    · obtain ⟨b, o, rfl, hb, hcell, hI⟩ := Hx.out k hlt
      have hcell2 : wr.cell? ⟨b, o + k, none⟩ = some (.string xs[k]) := by rw [hbel.cell (p := ⟨b, o + k, none⟩) (show b < _ from by omega)]; exact hcell
      obtain ⟨u, hu0⟩ : ∃ u, C'[k]? = some u := ⟨_, Array.getElem?_eq_getElem (by rw [Hsz.out]; exact hlt)⟩
      have hu : wr.cell? ⟨w.heap.size, k, none⟩ = some u := by rw [cell_of_row _ _ _ _ _ _ hrow]; exact hu0
      have hfz : wr.frozen? ⟨w.heap.size, k, none⟩ = false := frozen_of_row _ _ _ _ _ hrow
      have Hnew : Hid ((wr.setCell ⟨w.heap.size, k, none⟩ (.string xs[k])).heap[w.heap.size]? = some (.cells (C'.setIfInBounds k (.string xs[k])) 9 (0, 0))) := Lib.hid (heap_setCell_same _ _ _ _ _ _ hrow)
      have Hb2 : Hid (Below w.heap.size w (wr.setCell ⟨w.heap.size, k, none⟩ (.string xs[k]))) := Lib.hid (hbel.setCell (p := ⟨w.heap.size, k, none⟩) (Nat.le_refl _) _)
      have Hall2 : Hid (∀ j (hj : j < xs.length), j < k + 1 → (C'.setIfInBounds k (.string xs[k]))[j]? = some (.string xs[j])) := Lib.hid (fun j hj hjk => by
        rw [Array.getElem?_setIfInBounds]
        by_cases e : k = j
        · subst e; simp [Hsz.out, hlt]
        · rw [if_neg e]; exact Hall.out j hj (by omega))
      clear hcell hu0 hrow hbel hws
      go_wp2
      go_roundw
      case rel => exact ⟨k + 1, _, by omega, by go_num, Hnew.out, by simp [Hsz.out], Hall2.out, by simp [World.setCell, Hws.out], Hb2.out⟩
      case measure => simp [intOf]; omega
    · have Hrow : Hid (RowT wr w.heap.size xs) := Lib.hid (by
        unfold RowT
        rw [hrow]
        congr 2
        apply Array.ext (by rw [cellsT_size, Hsz.out])
        intro i h1 h2
        rw [cellsT_size] at h2
        have e1 := Hall.out i h2 (by omega)
        have e2 := cellsT_at xs i h2
        rw [Array.getElem?_eq_getElem h1] at e1
        rw [Array.getElem?_eq_getElem (by rw [cellsT_size]; exact h2)] at e2
        rw [← Option.some.inj e1] at e2
        exact (Option.some.inj e2).symm)
      have Hbel := Lib.hid hbel
      clear hrow hbel hws
      go_wp2
      go_ret
      exact ⟨rfl, Hrow.out, Hws.out, Hbel.out⟩
set_option maxHeartbeats 400000 in
theorem eqT_any {B : Nat} {w : World} {v1 v2 : Value} {xs : List ByteArray} (h1 : RiT B w v1 xs) (h2 : RiT B w v2 xs) (hB : B ≤ w.heap.size) :
    Calls Try.prog 51 #[v1, v2] w (GivesB (.bool true) w) := by
  obtain ⟨A1, c1, rfl, hl1, hm1, hx1⟩ := h1
  obtain ⟨A2, c2, rfl, hl2, hm2, hx2⟩ := h2
  have Hx1 := Lib.hid hx1; have Hx2 := Lib.hid hx2; clear hx1 hx2
  unfold maxLen at hm1 hm2
  go_enter Try.func51, Try.ntmps51
  go_wp2
  go_loopw [5] (fun i wr => ∃ k : Nat, k ≤ xs.length ∧ i = .int .i64 k ∧ Below w.heap.size w wr) (fun i _ => xs.length - (intOf i).toNat)
  case atStart => exact ⟨0, Nat.zero_le _, rfl, Below.refl _ _⟩
  case round =>
    obtain ⟨k, hk, rfl, hbel⟩ := hrel
    by_cases hlt : k < xs.length
    · obtain ⟨b1, o1, rfl, hb1, hq1, _⟩ := Hx1.out k hlt
      obtain ⟨b2, o2, rfl, hb2, hq2, _⟩ := Hx2.out k hlt
      have g1 : wr.cell? ⟨b1, o1 + k, none⟩ = some (.string xs[k]) := by rw [hbel.cell (p := ⟨b1, o1 + k, none⟩) (show b1 < _ from by omega)]; exact hq1
      have g2 : wr.cell? ⟨b2, o2 + k, none⟩ = some (.string xs[k]) := by rw [hbel.cell (p := ⟨b2, o2 + k, none⟩) (show b2 < _ from by omega)]; exact hq2
      have Hbel := Lib.hid hbel
      clear hq1 hq2 hbel
      go_wp2
      go_quiet (fail)
      go_wp2
      go_roundw
      case rel => exact ⟨k + 1, by omega, by go_num, below_draws Hbel.out _⟩
      case measure => simp [intOf]; omega
    · go_wp2
      go_ret
      exact ⟨rfl, hbel⟩
/-- A list of strings of one's own. -/
def OT (w : World) (lo : Nat) (v : Value) (ss : List ByteArray) : Prop := w.ownsRow lo 9 1 v ss.length (ss.map Value.string)
theorem OT.sl {w : World} {lo : Nat} {v : Value} {ss : List ByteArray} (h : OT w lo v ss) : (v = .slice none 0 0 ∧ ss = []) ∨ ∃ g cap, v = .slice (some ⟨g, 0, none⟩) ss.length cap ∧ lo ≤ g ∧ g < w.heap.size ∧ ss.length ≤ cap ∧ cap ≤ maxLen := by
  rcases own_sl h with ⟨h1, h2⟩ | h1
  · exact .inl ⟨h1, List.eq_nil_of_length_eq_zero h2⟩
  · exact .inr h1
theorem OT.cell {w : World} {lo g cap n : Nat} {ss : List ByteArray} (h : OT w lo (.slice (some ⟨g, 0, none⟩) n cap) ss) (j : Nat) (hj : j < ss.length) : w.cell? ⟨g, j, none⟩ = some (.string ss[j]) := by
  have := World.ownsRow.cells (g := g) h rfl j (.string ss[j]) (by simp [hj])
  rw [add_at, Nat.zero_add] at this
  exact this
theorem OT.rit {w : World} {lo : Nat} {v : Value} {ss : List ByteArray} (h : OT w lo v ss) (hi : ∀ x ∈ ss, x.size ≤ maxLen) : RiT w.heap.size w v ss := by
  rcases h.sl with ⟨rfl, rfl⟩ | ⟨g, cap, rfl, hlo, hg, hn, hm⟩
  · exact RiT.nil _ _
  · exact ⟨_, cap, rfl, hn, hm, fun i hi2 => ⟨g, 0, rfl, hg, by rw [Nat.zero_add]; exact h.cell i hi2, hi _ (List.getElem_mem hi2)⟩⟩
theorem OT.of_row {w : World} {lo b : Nat} {ss : List ByteArray} (h : RowT w b ss) (hlo : lo ≤ b) (hl : ss.length ≤ maxLen) : OT w lo (.slice (some ⟨b, 0, none⟩) ss.length ss.length) ss := by
  refine ⟨by simp, .inr ⟨b, ss.length, cellsT ss, rfl, hlo, h, Nat.le_refl _, hl, by rw [cellsT_size, Nat.mul_one], ?_⟩⟩
  rw [Nat.mul_one]
  simp only [cellsT]
  rw [List.take_of_length_le (by simp)]
theorem OT.set {w : World} {lo g cap : Nat} {ss : List ByteArray} {n : Nat} (h : OT w lo (.slice (some ⟨g, 0, none⟩) n cap) ss) (j : Nat) (x : ByteArray) (hj : j < ss.length) :
    OT (w.setCell ⟨g, j, none⟩ (.string x)) lo (.slice (some ⟨g, 0, none⟩) n cap) (ss.set j x) := by
  unfold OT at h ⊢
  rcases h.2 with ⟨h0, _⟩ | ⟨g', cap', cur, he, hb, hg, hnc, hm, hcs, htake⟩
  · cases h0
  · cases he
    refine ⟨by simp, .inr ⟨g, cap, cur.setIfInBounds j (.string x), by rw [List.length_set], hb, heap_setCell_same _ _ _ _ _ _ hg, by simpa using hnc, hm, by simpa using hcs, ?_⟩⟩
    rw [List.length_set, Array.toList_setIfInBounds, List.take_set, htake, List.map_set]
def SmT (ss : List ByteArray) : Prop := ss.length ≤ 1048576 ∧ ∀ s ∈ ss, s.size ≤ 1048576
set_option maxHeartbeats 400000 in
theorem szT_any {B : Nat} {w : World} {v : Value} {ss : List ByteArray} (h : RiT B w v ss) (L : Int) (h0 : 0 ≤ L) (h1 : L ≤ 1048576) (hB : B ≤ w.heap.size) :
    Calls Try.prog 46 #[v, .int .i64 L] w (Left L (SmT ss) w) := by
  obtain ⟨A, cap, rfl, hl, hc, hx⟩ := h
  have hs : ss.length ≤ 1048576 → (∀ j (hj : j < ss.length), ss[j].size ≤ 1048576) → SmT ss := fun h h2 => ⟨h, fun p hp => by
    obtain ⟨j, hj, rfl⟩ := List.getElem_of_mem hp
    exact h2 j hj⟩
  generalize SmT ss = P at *
  unfold maxLen at hc
  have Hs := Lib.hid hs; have Hx := Lib.hid hx; clear hs hx
  by_cases hn : L < (ss.length : Int)
  · go_enter Try.func46, Try.ntmps46
    go_wp2
    go_ret
    exact ⟨-1, rfl, by omega, by omega, by omega, Below.refl _ _⟩
  · go_enter Try.func46, Try.ntmps46
    go_wp2
    go_loopw [1, 5] (fun l i wr => ∃ k : Nat, ∃ n : Int, k ≤ ss.length ∧ i = .int .i64 k ∧ l = .int .i64 n ∧ 0 ≤ n ∧ n ≤ L ∧ Below w.heap.size w wr ∧ ∀ j (hj : j < ss.length), j < k → ss[j].size ≤ 1048576) (fun _ i _ => ss.length - (intOf i).toNat)
    case atStart => exact ⟨0, _, Nat.zero_le _, rfl, rfl, by omega, by omega, Below.refl _ _, fun j hj h => absurd h (by omega)⟩
    case round =>
      obtain ⟨k, n, hk, rfl, rfl, hn0, hnL, hbel, hall⟩ := hrel
      have Hall := Lib.hid hall; clear hall
      have Hbel := Lib.hid hbel
      by_cases hlt : k < ss.length
      · obtain ⟨b, o, rfl, hb, hc1, hm⟩ := Hx.out k hlt
        have g1 : wr.cell? ⟨b, o + k, none⟩ = some (.string ss[k]) := by rw [hbel.cell (p := ⟨b, o + k, none⟩) (show b < _ from by omega)]; exact hc1
        unfold maxLen at hm
        clear hc1 hbel
        have Hall1 : Hid (∀ h : ss[k].size ≤ 1048576, ∀ j (hj : j < ss.length), j < k + 1 → ss[j].size ≤ 1048576) := Lib.hid (fun h j hj hjk => by
          rcases Nat.lt_or_ge j k with h2 | h2
          · exact Hall.out j hj h2
          · obtain rfl : j = k := by omega
            exact h)
        generalize hsz : ss[k] = s at *
        have Hsz := Lib.hid hsz; clear hsz
        by_cases hneg : n < (s.size : Int)
        · go_wp2
          go_ret
          exact ⟨-1, rfl, by omega, by omega, by omega, Hbel.out⟩
        · go_wp2
          go_roundw
          case rel => exact ⟨k + 1, n - s.size, by omega, by go_num, rfl, by omega, by omega, Hbel.out, Hall1.out (by omega)⟩
          case measure => simp [intOf]; omega
      · have Hp : Hid P := Lib.hid (Hs.out (by omega) (fun j hj => Hall.out j hj (by omega)))
        clear hbel
        go_wp2
        go_ret
        exact ⟨n, rfl, by omega, by omega, fun _ => Hp.out, Hbel.out⟩
end Go.Proofs.Ytabnglimchjgpaa
