/- Filters: lists in memory; contracts of the laws' functions that bound, copy, compare, mark and hold them. No statement is proved here. -/
import Derived.Test.YtmddgncidgdglaaStr
import Derived.Deep.WholeRow
import Derived.StillTailTactics
namespace Go.Proofs.Ytmddgncidgdglaa
open Go.RowKit
set_option linter.unusedVariables false
theorem there_rowFI {w : World} {b o n : Nat} {C : Array Value} {t : TypeId} (h : w.heap[b]? = some (.cells C t (0, 0))) (hn : o + n ≤ C.size) : w.there b o n := fun j hj =>
  ⟨by rw [cell_of_row _ _ _ _ _ _ h, Array.getElem?_eq_getElem (by omega)]; rfl, frozen_of_row _ _ _ _ _ h⟩
abbrev EFI := Int × Int × Bool
/-- A slice that reads as this list, below block B. -/
def RiFI (B : Nat) (w : World) (v : Value) (ps : List EFI) : Prop := ∃ (A : Option Addr) (cap : Nat), v = .slice A ps.length cap ∧ ps.length ≤ cap ∧ cap ≤ maxLen ∧
  ∀ (i : Nat) (hi : i < ps.length), ∃ (b o : Nat), A = some ⟨b, o, none⟩ ∧ b < B ∧ w.cell? ⟨b, o + i * 3, none⟩ = some (.int .i64 ps[i].1) ∧ w.cell? ⟨b, o + i * 3 + 1, none⟩ = some (.int .i64 ps[i].2.1) ∧ w.cell? ⟨b, o + i * 3 + 2, none⟩ = some (.bool ps[i].2.2) ∧ InI ps[i].1 ∧ InI ps[i].2.1
theorem RiFI.up {B B' : Nat} {w w' : World} {v : Value} {ps : List EFI} (h : RiFI B w v ps) (hB : B ≤ B') (hw : Below B w w') : RiFI B' w' v ps := by
  obtain ⟨A, cap, hv, h1, h2, h3⟩ := h
  refine ⟨A, cap, hv, h1, h2, fun i hi => ?_⟩
  obtain ⟨b, o, hA, hb, hc0, hc1, hc2, hr⟩ := h3 i hi
  exact ⟨b, o, hA, by omega, by rw [hw.cell hb]; exact hc0, by rw [hw.cell hb]; exact hc1, by rw [hw.cell hb]; exact hc2, hr⟩
theorem RiFI.at {B : Nat} {w w' : World} {v : Value} {ps : List EFI} (h : RiFI B w v ps) (hB : B ≤ w.heap.size) (hw : Below w.heap.size w w') : RiFI w'.heap.size w' v ps :=
  (h.up (Nat.le_refl _) (hw.mono hB)).up (Nat.le_trans hB hw.size) (Below.refl _ _)
theorem RiFI.nil (B : Nat) (w : World) : RiFI B w (.slice none 0 0) [] := ⟨none, 0, rfl, Nat.le_refl _, by decide, fun i hi => by simp at hi⟩
theorem Rd.rifi {f B : Nat} {w : World} {v : Value} {d : D} (h : Rd f B w (.sl .fil) v d) : ∃ ps : List EFI, RiFI B w v ps := by
  obtain ⟨f', rows, A, cap, _, _, rfl, hl, hc, hx⟩ := Rd.sl h
  have each : ∀ i, i < rows.length → ∃ x : EFI, ∃ (b o : Nat), A = some ⟨b, o, none⟩ ∧ b < B ∧ w.cell? ⟨b, o + i * 3, none⟩ = some (.int .i64 x.1) ∧ w.cell? ⟨b, o + i * 3 + 1, none⟩ = some (.int .i64 x.2.1) ∧ w.cell? ⟨b, o + i * 3 + 2, none⟩ = some (.bool x.2.2) ∧ InI x.1 ∧ InI x.2.1 := by
    intro i hi
    obtain ⟨b, o, cs, hA, hb, hc, hd⟩ := hx i rows[i] (List.getElem?_eq_getElem hi)
    generalize rows[i] = row at *
    obtain ⟨c0, d0, vs0, ds0, rfl, rfl, hd0, hn0⟩ := RdsOf.cons hd
    obtain ⟨c1, d1, vs1, ds1, rfl, rfl, hd1, hn1⟩ := RdsOf.cons hn0
    obtain ⟨c2, d2, vs2, ds2, rfl, rfl, hd2, hn2⟩ := RdsOf.cons hn1
    obtain ⟨rfl, rfl⟩ := RdsOf.nil hn2
    obtain ⟨x0, _, rfl, hI0⟩ := Rd.int hd0
    obtain ⟨x1, _, rfl, hI1⟩ := Rd.int hd1
    obtain ⟨x2, rfl, rfl⟩ := Rd.bool hd2
    exact ⟨(x0, x1, x2), b, o, hA, hb, hc 0 _ rfl, hc 1 _ rfl, hc 2 _ rfl, hI0, hI1⟩
  obtain ⟨xs, hl2, hx2⟩ := list_of rows.length each
  exact ⟨xs, A, cap, by rw [hl2], by omega, hc, fun i hi => hx2 i hi⟩
theorem RiFI.wf {B : Nat} {w : World} {v : Value} {ps : List EFI} (h : RiFI B w v ps) : ∀ p ∈ ps, InI p.1 ∧ InI p.2.1 := by
  obtain ⟨A, cap, hv, h1, h2, h3⟩ := h
  intro p hp
  obtain ⟨i, hi, rfl⟩ := List.getElem_of_mem hp
  obtain ⟨b, o, hA, hb, _, _, _, hr⟩ := h3 i hi
  exact hr
def flatFI : List EFI → List Value
  | [] => []
  | p :: ps => .int .i64 p.1 :: .int .i64 p.2.1 :: .bool p.2.2 :: flatFI ps
theorem flatFI_len : ∀ ps : List EFI, (flatFI ps).length = ps.length * 3
  | [] => rfl
  | p :: ps => by simp [flatFI, flatFI_len ps]; omega
theorem flatFI_at : ∀ (ps : List EFI) (i : Nat) (h : i < ps.length), (flatFI ps)[i * 3]? = some (.int .i64 ps[i].1) ∧ (flatFI ps)[i * 3 + 1]? = some (.int .i64 ps[i].2.1) ∧ (flatFI ps)[i * 3 + 2]? = some (.bool ps[i].2.2)
  | p :: ps, 0, _ => ⟨rfl, rfl, rfl⟩
  | p :: ps, i + 1, h => by
    have e1 : (i + 1) * 3 = i * 3 + 3 := by omega
    rw [e1]
    exact flatFI_at ps i (Nat.lt_of_succ_lt_succ h)
theorem flatFI_append : ∀ ps qs : List EFI, flatFI (ps ++ qs) = flatFI ps ++ flatFI qs
  | [], _ => rfl
  | p :: ps, qs => by simp [flatFI, flatFI_append ps qs]
theorem flatFI_one : ∀ ps : List EFI, ∀ u ∈ flatFI ps, u.oneCell' = true
  | [], u, h => by simp [flatFI] at h
  | p :: ps, u, h => by
    simp only [flatFI, List.mem_cons] at h
    rcases h with rfl | rfl | rfl | h
    · rfl
    · rfl
    · rfl
    · exact flatFI_one ps u h
def cellsFI (ps : List EFI) : Array Value := (flatFI ps).toArray
/-- A block that holds this list. -/
def RowFI (w : World) (b : Nat) (ps : List EFI) : Prop := w.heap[b]? = some (.cells (cellsFI ps) 25 (0, 0))
theorem cellsFI_of {C : Array Value} {ps : List EFI} (hs : C.size = ps.length * 3) (h : ∀ j (hj : j < ps.length), C[j * 3]? = some (.int .i64 ps[j].1) ∧ C[j * 3 + 1]? = some (.int .i64 ps[j].2.1) ∧ C[j * 3 + 2]? = some (.bool ps[j].2.2)) : C = cellsFI ps := by
  apply Array.ext (by simp [cellsFI, flatFI_len, hs])
  intro i h1 h2
  have hi : i / 3 < ps.length := by omega
  have hc := h (i / 3) hi
  have hf := flatFI_at ps (i / 3) hi
  have key : ∀ q, q = i → C[q]? = (flatFI ps)[q]? → C[i] = (cellsFI ps)[i] := fun q hq he => by
    subst hq
    have e1 : C[q]? = some C[q] := Array.getElem?_eq_getElem h1
    have e2 : (flatFI ps)[q]? = some (cellsFI ps)[q] := by simp [cellsFI]
    rw [e1, e2] at he
    exact Option.some.inj he
  have hm : i % 3 = 0 ∨ i % 3 = 1 ∨ i % 3 = 2 := by omega
  rcases hm with hm | hm | hm
  · exact key (i / 3 * 3) (by omega) ((hc.1).trans (hf.1).symm)
  · exact key (i / 3 * 3 + 1) (by omega) ((hc.2.1).trans (hf.2.1).symm)
  · exact key (i / 3 * 3 + 2) (by omega) ((hc.2.2).trans (hf.2.2).symm)
/-- A list of one's own. -/
def OFI (w : World) (lo : Nat) (v : Value) (ps : List EFI) : Prop := w.ownsRow lo 25 3 v ps.length (flatFI ps)
theorem OFI.sl {w : World} {lo : Nat} {v : Value} {ps : List EFI} (h : OFI w lo v ps) : (v = .slice none 0 0 ∧ ps = []) ∨ ∃ g cap, v = .slice (some ⟨g, 0, none⟩) ps.length cap ∧ lo ≤ g ∧ g < w.heap.size ∧ ps.length ≤ cap ∧ cap ≤ maxLen := by
  rcases own_sl h with ⟨h1, h2⟩ | h1
  · exact .inl ⟨h1, List.eq_nil_of_length_eq_zero h2⟩
  · exact .inr h1
theorem OFI.cell {w : World} {lo g cap n : Nat} {ps : List EFI} (h : OFI w lo (.slice (some ⟨g, 0, none⟩) n cap) ps) (j : Nat) (hj : j < ps.length) : w.cell? ⟨g, j * 3, none⟩ = some (.int .i64 ps[j].1) ∧ w.cell? ⟨g, j * 3 + 1, none⟩ = some (.int .i64 ps[j].2.1) ∧ w.cell? ⟨g, j * 3 + 2, none⟩ = some (.bool ps[j].2.2) := by
  have h0 := World.ownsRow.cells (g := g) h rfl (j * 3) _ (flatFI_at ps j hj).1
  have h1 := World.ownsRow.cells (g := g) h rfl (j * 3 + 1) _ (flatFI_at ps j hj).2.1
  have h2 := World.ownsRow.cells (g := g) h rfl (j * 3 + 2) _ (flatFI_at ps j hj).2.2
  rw [add_at, Nat.zero_add] at h0 h1 h2
  exact ⟨h0, h1, h2⟩
theorem OFI.ri {w : World} {lo : Nat} {v : Value} {ps : List EFI} (h : OFI w lo v ps) (hi : ∀ p ∈ ps, InI p.1 ∧ InI p.2.1) : RiFI w.heap.size w v ps := by
  rcases h.sl with ⟨rfl, rfl⟩ | ⟨g, cap, rfl, hlo, hg, hn, hm⟩
  · exact RiFI.nil _ _
  · exact ⟨_, cap, rfl, hn, hm, fun i hi2 => ⟨g, 0, rfl, hg, by rw [Nat.zero_add]; exact (h.cell i hi2).1, by rw [Nat.zero_add]; exact (h.cell i hi2).2.1, by rw [Nat.zero_add]; exact (h.cell i hi2).2.2, hi _ (List.getElem_mem hi2)⟩⟩
theorem OFI.of_row {w : World} {lo b : Nat} {ps : List EFI} (h : RowFI w b ps) (hlo : lo ≤ b) (hl : ps.length ≤ maxLen) : OFI w lo (.slice (some ⟨b, 0, none⟩) ps.length ps.length) ps := by
  refine ⟨by rw [flatFI_len], .inr ⟨b, ps.length, cellsFI ps, rfl, hlo, h, Nat.le_refl _, hl, by simp [cellsFI, flatFI_len], ?_⟩⟩
  simp only [cellsFI]
  rw [List.take_of_length_le (by rw [flatFI_len]; exact Nat.le_refl _)]
def SmFI (ps : List EFI) : Prop := ps.length ≤ 1048576 ∧ ∀ p ∈ ps, True
theorem cells_FI {w : World} {b o : Nat} {u0 u1 u2 : Value} (h0 : w.cell? ⟨b, o, none⟩ = some u0) (h1 : w.cell? ⟨b, o + 1, none⟩ = some u1) (h2 : w.cell? ⟨b, o + 2, none⟩ = some u2) : ∀ (j : Nat) (u : Value), [u0, u1, u2][j]? = some u → w.cell? ⟨b, o + j, none⟩ = some u := fun j u hj => by
  rcases j with _ | _ | _ | j
  · obtain rfl := Option.some.inj hj; exact h0
  · obtain rfl := Option.some.inj hj; exact h1
  · obtain rfl := Option.some.inj hj; exact h2
  · simp at hj
theorem heap_setCellsFI {w : World} {b o : Nat} {C : Array Value} {t : TypeId} (u0 u1 u2 : Value) (h : w.heap[b]? = some (.cells C t (0, 0))) : (w.setCells b o [u0, u1, u2]).heap[b]? = some (.cells (((C.setIfInBounds (o) u0).setIfInBounds (o + 1) u1).setIfInBounds (o + 1 + 1) u2) t (0, 0)) := by
  show (((w.setCell ⟨b, o, none⟩ u0).setCell ⟨b, o + 1, none⟩ u1).setCell ⟨b, o + 1 + 1, none⟩ u2).heap[b]? = _
  exact heap_setCell_same _ _ _ _ _ _ (heap_setCell_same _ _ _ _ _ _ (heap_setCell_same _ _ _ _ _ _ h))
theorem szFilters_any {B : Nat} {w : World} {v : Value} {ps : List EFI} (h : RiFI B w v ps) (hB : B ≤ w.heap.size) (L : Int) (h0 : 0 ≤ L) (h1 : L ≤ 1048576) :
    Calls Try.prog 34 #[v, .int .i64 L] w (Left L (SmFI ps) w) := by
  obtain ⟨A, cap, rfl, hl, hc, hx⟩ := h
  have hs : (ps.length : Int) ≤ L → SmFI ps := fun h => ⟨by omega, fun _ _ => trivial⟩
  generalize SmFI ps = P at *
  unfold maxLen at hc
  have Hs := Lib.hid hs; clear hs hx
  by_cases hn : L < (ps.length : Int)
  · go_enter Try.func34, Try.ntmps34
    go_wp2
    go_ret
    exact ⟨-1, rfl, by omega, by omega, by omega, Below.refl _ _⟩
  · go_enter Try.func34, Try.ntmps34
    go_wp2
    go_ret
    exact ⟨L - ps.length, rfl, by omega, by omega, fun _ => Hs.out (by omega), Below.refl _ _⟩
theorem Try.infoFI : (Try.prog.info? 25).map (fun i => (i.zero.isSome, i.size, i.bytes)) = some (true, 3, 24) := by kernel_rfl
set_option maxHeartbeats 400000 in
theorem toFilter_any (n0 : Int) (n1 : Int) (n2 : Bool) (w : World) :
    Calls Try.prog 18 #[.agg #[.int .i64 n0, .int .i64 n1, .bool n2]] w (GivesB (.agg #[.int .i64 n0, .int .i64 n1, .bool n2]) w) := by
  go_enter Try.func18, Try.ntmps18
  go_wp2
  refine bodyPost_ret (v := .agg #[.int .i64 n0, .int .i64 n1, .bool n2]) ?_ rfl ⟨rfl, ?_⟩
  · simp [results, Try.results18, go_sem]
  · exact (((Below.refl _ _).alloc (Nat.le_refl _) _).alloc (by simp) _).alloc (by simp; omega) _
set_option maxHeartbeats 400000 in
theorem eqFilter_any (n0 : Int) (n1 : Int) (n2 : Bool) (w : World) :
    Calls Try.prog 76 #[.agg #[.int .i64 n0, .int .i64 n1, .bool n2], .agg #[.int .i64 n0, .int .i64 n1, .bool n2]] w (GivesB (.bool true) w) := by
  go_enter Try.func76, Try.ntmps76
  go_wp2
  go_ret
  exact ⟨rfl, ((Below.refl _ _).alloc (Nat.le_refl _) _).alloc (by simp) _⟩
set_option maxHeartbeats 1000000 in
set_option maxRecDepth 100000 in
theorem toFilters_any {B : Nat} {w : World} {v : Value} {ps : List EFI} (h : RiFI B w v ps) (hB : B ≤ w.heap.size) (hs : ps.length ≤ 1048576) :
    Calls Try.prog 36 #[v] w fun e w' => e = .returned (.slice (some ⟨w.heap.size, 0, none⟩) ps.length ps.length) ∧ RowFI w' w.heap.size ps ∧ Below w.heap.size w w' := by
  obtain ⟨A, cap, rfl, hl, hc, hx⟩ := h
  obtain ⟨C, hC, hmk⟩ := make_all (P := Try.prog) 37 25 ps.length 3 24 Try.underlying37 Try.infoFI (by omega) (by omega)
  have Hx := Lib.hid hx; have HC := Lib.hid hC
  clear hx hC
  unfold maxLen at hc
  have HB0 : Hid (Below w.heap.size w (w.alloc (.cells C 25))) := Lib.hid ((Below.refl _ w).alloc (Nat.le_refl _) _)
  have HR0 : Hid ((w.alloc (.cells C 25)).heap[w.heap.size]? = some (.cells C 25 (0, 0))) := Lib.hid (heap_alloc_new w _)
  have HZ0 : Hid (w.heap.size < (w.alloc (.cells C 25)).heap.size) := Lib.hid (by simp)
  go_enter Try.func36, Try.ntmps36
  go_wp2
  go_loopw [4] (fun i wr => ∃ k : Nat, ∃ C' : Array Value, k ≤ ps.length ∧ i = .int .i64 k ∧ wr.heap[w.heap.size]? = some (.cells C' 25 (0, 0)) ∧ C'.size = ps.length * 3 ∧ (∀ j (hj : j < ps.length), j < k → C'[j * 3]? = some (.int .i64 ps[j].1) ∧ C'[j * 3 + 1]? = some (.int .i64 ps[j].2.1) ∧ C'[j * 3 + 2]? = some (.bool ps[j].2.2)) ∧ w.heap.size < wr.heap.size ∧ Below w.heap.size w wr) (fun i _ => ps.length - (intOf i).toNat)
  case atStart => exact ⟨0, C, Nat.zero_le _, rfl, HR0.out, HC.out, fun j hj h => absurd h (by omega), HZ0.out, HB0.out⟩
  case round =>
    obtain ⟨k, C', hk, rfl, hrow, hsz, hall, hws, hbel⟩ := hrel
    have Hall := Lib.hid hall; have Hsz := Lib.hid hsz
    have Hrow := Lib.hid hrow; have Hbel := Lib.hid hbel
    clear hall hsz
    by_cases hlt : k < ps.length
    · obtain ⟨b, o, rfl, hb, hc0, hc1, hc2, hI0, hI1⟩ := Hx.out k hlt
      have Hld := Lib.hid (run_load_cells (P := Try.prog) wr b (o + k * 3) 23 _ [.int .i64 ps[k].1, .int .i64 ps[k].2.1, .bool ps[k].2.2] (cells_FI (by rw [hbel.cell (show b < _ from by omega)]; exact hc0) (by rw [hbel.cell (show b < _ from by omega)]; exact hc1) (by rw [hbel.cell (show b < _ from by omega)]; exact hc2)) Try.underlying23 (by kernel_rfl))
      clear hc0 hc1 hc2 hbel hrow hI0 hI1
      go_wp2_with (refine wpList_load_agg rfl 23 (.tmp 18) rfl _ rfl _ Hld.out ?_)
      refine (toFilter_any _ _ _ _).mono ?_
      rintro e w1 ⟨rfl, hb1⟩
      have hz1 := hb1.size
      have Hrow1 : Hid (w1.heap[w.heap.size]? = some (.cells C' 25 (0, 0))) := Lib.hid (by rw [hb1.block _ hws]; exact Hrow.out)
      have Hth : Hid (w1.there w.heap.size (k * 3) 3) := Lib.hid (there_rowFI Hrow1.out (by rw [Hsz.out]; omega))
      have Hnew := Lib.hid (heap_setCellsFI (o := k * 3) (.int .i64 ps[k].1) (.int .i64 ps[k].2.1) (.bool ps[k].2.2) Hrow1.out)
      have Hb2 : Hid (Below w.heap.size w (w1.setCells w.heap.size (k * 3) [.int .i64 ps[k].1, .int .i64 ps[k].2.1, .bool ps[k].2.2])) := Lib.hid (below_setCells (Nat.le_refl _) _ _ (Hbel.out.trans (hb1.mono (by omega))))
      have Hz2 : Hid (w.heap.size < (w1.setCells w.heap.size (k * 3) [.int .i64 ps[k].1, .int .i64 ps[k].2.1, .bool ps[k].2.2]).heap.size) := Lib.hid (by rw [size_setCells]; omega)
      have Hall2 : Hid (∀ j (hj : j < ps.length), j < k + 1 → (((C'.setIfInBounds (k * 3) (.int .i64 ps[k].1)).setIfInBounds (k * 3 + 1) (.int .i64 ps[k].2.1)).setIfInBounds (k * 3 + 1 + 1) (.bool ps[k].2.2))[j * 3]? = some (.int .i64 ps[j].1) ∧ (((C'.setIfInBounds (k * 3) (.int .i64 ps[k].1)).setIfInBounds (k * 3 + 1) (.int .i64 ps[k].2.1)).setIfInBounds (k * 3 + 1 + 1) (.bool ps[k].2.2))[j * 3 + 1]? = some (.int .i64 ps[j].2.1) ∧ (((C'.setIfInBounds (k * 3) (.int .i64 ps[k].1)).setIfInBounds (k * 3 + 1) (.int .i64 ps[k].2.1)).setIfInBounds (k * 3 + 1 + 1) (.bool ps[k].2.2))[j * 3 + 2]? = some (.bool ps[j].2.2)) := Lib.hid (fun j hj hjk => by
        have hsz := Hsz.out
        by_cases e : k = j
        · subst e
          exact ⟨by rw [Array.getElem?_setIfInBounds, if_neg (by omega)]; rw [Array.getElem?_setIfInBounds, if_neg (by omega)]; rw [Array.getElem?_setIfInBounds, if_pos (by omega), if_pos (by (try simp only [Array.size_setIfInBounds]); omega)], by rw [Array.getElem?_setIfInBounds, if_neg (by omega)]; rw [Array.getElem?_setIfInBounds, if_pos (by omega), if_pos (by (try simp only [Array.size_setIfInBounds]); omega)], by rw [Array.getElem?_setIfInBounds, if_pos (by omega), if_pos (by (try simp only [Array.size_setIfInBounds]); omega)]⟩
        · exact ⟨by rw [Array.getElem?_setIfInBounds, if_neg (by omega), Array.getElem?_setIfInBounds, if_neg (by omega), Array.getElem?_setIfInBounds, if_neg (by omega)]; exact (Hall.out j hj (by omega)).1, by rw [Array.getElem?_setIfInBounds, if_neg (by omega), Array.getElem?_setIfInBounds, if_neg (by omega), Array.getElem?_setIfInBounds, if_neg (by omega)]; exact (Hall.out j hj (by omega)).2.1, by rw [Array.getElem?_setIfInBounds, if_neg (by omega), Array.getElem?_setIfInBounds, if_neg (by omega), Array.getElem?_setIfInBounds, if_neg (by omega)]; exact (Hall.out j hj (by omega)).2.2⟩)
      clear hb1
      go_wp2_with (refine wpList_store_mid rfl 25 (.tmp 21) (.tmp 20) rfl _ (k * 3) #[.int .i64 ps[k].1, .int .i64 ps[k].2.1, .bool ps[k].2.2] rfl rfl Hth.out (by kernel_rfl) (by simp [Value.oneCell']) ?_)
      go_roundw
      case rel => exact ⟨k + 1, _, by omega, by go_num, Hnew.out, by simp [Hsz.out], Hall2.out, Hz2.out, Hb2.out⟩
      case measure => simp [intOf]; omega
    · have HP : Hid (RowFI wr w.heap.size ps) := Lib.hid (by
        unfold RowFI
        rw [← cellsFI_of Hsz.out (fun j hj => Hall.out j hj (by omega))]; exact hrow)
      clear hrow hbel
      go_wp2
      go_ret
      exact ⟨rfl, HP.out, Hbel.out⟩
set_option maxHeartbeats 1000000 in
set_option maxRecDepth 100000 in
theorem eqFilters_any {B : Nat} {w : World} {v1 v2 : Value} {ps : List EFI} (h1 : RiFI B w v1 ps) (h2 : RiFI B w v2 ps) (hB : B ≤ w.heap.size) :
    Calls Try.prog 38 #[v1, v2] w (GivesB (.bool true) w) := by
  obtain ⟨A1, c1, rfl, hl1, hm1, hx1⟩ := h1
  obtain ⟨A2, c2, rfl, hl2, hm2, hx2⟩ := h2
  have Hx1 := Lib.hid hx1; have Hx2 := Lib.hid hx2; clear hx1 hx2
  unfold maxLen at hm1 hm2
  go_enter Try.func38, Try.ntmps38
  go_wp2
  go_loopw [5] (fun i wr => ∃ k : Nat, k ≤ ps.length ∧ i = .int .i64 k ∧ Below w.heap.size w wr) (fun i _ => ps.length - (intOf i).toNat)
  case atStart => exact ⟨0, Nat.zero_le _, rfl, Below.refl _ _⟩
  case round =>
    obtain ⟨k, hk, rfl, hbel⟩ := hrel
    by_cases hlt : k < ps.length
    · obtain ⟨b1, o1, rfl, hb1, q1_0, q1_1, q1_2, -⟩ := Hx1.out k hlt
      obtain ⟨b2, o2, rfl, hb2, q2_0, q2_1, q2_2, -⟩ := Hx2.out k hlt
      have hbw : Below wr.heap.size wr (wr.drewN 1) := below_draws (Below.refl _ _) 1
      have hbW : Below w.heap.size w (wr.drewN 1) := hbel.trans (hbw.mono hbel.size)
      have Hbel := Lib.hid hbel; have Hbw := Lib.hid hbw
      have G1 := Lib.hid (run_load_cells (P := Try.prog) (wr.drewN 1) b1 (o1 + k * 3) 25 _ [.int .i64 ps[k].1, .int .i64 ps[k].2.1, .bool ps[k].2.2] (cells_FI (by rw [hbW.cell (show b1 < _ from by omega)]; exact q1_0) (by rw [hbW.cell (show b1 < _ from by omega)]; exact q1_1) (by rw [hbW.cell (show b1 < _ from by omega)]; exact q1_2)) Try.underlying25 (by kernel_rfl))
      have G2 := Lib.hid (run_load_cells (P := Try.prog) (wr.drewN 1) b2 (o2 + k * 3) 25 _ [.int .i64 ps[k].1, .int .i64 ps[k].2.1, .bool ps[k].2.2] (cells_FI (by rw [hbW.cell (show b2 < _ from by omega)]; exact q2_0) (by rw [hbW.cell (show b2 < _ from by omega)]; exact q2_1) (by rw [hbW.cell (show b2 < _ from by omega)]; exact q2_2)) Try.underlying25 (by kernel_rfl))
      clear q1_0 q1_1 q1_2 q2_0 q2_1 q2_2 hbel hbw hbW
      go_wp2
      refine wp_region_still_tail 8 (by kernel_rfl) (by kernel_rfl) ?_
      simp only [List.take_succ_cons, List.take_zero, List.drop_succ_cons, List.drop_zero]
      still_step
      still_step
      still_step
      refine wpStill_load rfl 25 (.tmp 19) rfl _ rfl _ G1.out ?_
      still_step
      still_step
      still_step
      refine wpStill_load rfl 25 (.tmp 23) rfl _ rfl _ G2.out ?_
      refine wpStill_nil ?_
      go_wp2_with fail
      refine (eqFilter_any _ _ _ _).mono ?_
      rintro e w1 ⟨rfl, hb1⟩
      have Hb1 : Hid (Below w.heap.size w w1) := Lib.hid (Hbel.out.trans ((Hbw.out.trans (hb1.mono Hbw.out.size)).mono Hbel.out.size))
      clear hb1
      go_wp2
      go_roundw
      case rel => exact ⟨k + 1, by omega, by go_num, Hb1.out⟩
      case measure => simp [intOf]; omega
    · go_wp2
      go_ret
      exact ⟨rfl, hbel⟩
theorem toFilters_rd {B : Nat} {w : World} {v : Value} {ps : List EFI} (h : RiFI B w v ps) (hB : B ≤ w.heap.size) (hs : SmFI ps) :
    Calls Try.prog 36 #[v] w fun e w' => ∃ A : Option Addr, e = .returned (.slice A ps.length ps.length) ∧ RiFI w'.heap.size w' (.slice A ps.length ps.length) ps ∧ Below w.heap.size w w' :=
  (toFilters_any h hB hs.1).mono fun e w' ⟨he, r, g⟩ => ⟨_, he, (OFI.of_row r (Nat.le_refl _) (by unfold maxLen; have := hs.1; omega)).ri h.wf, g⟩
end Go.Proofs.Ytmddgncidgdglaa
