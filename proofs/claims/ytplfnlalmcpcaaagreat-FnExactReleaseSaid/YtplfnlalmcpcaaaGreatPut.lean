/- Lists of pairs of a number and a string in memory; contracts of the laws' functions that bound, copy and compare them. No statement is proved here. -/
import Derived.Test.YtplfnlalmcpcaaaGreatStr
import Derived.Deep.WholeRow
import Derived.StillTailTactics
namespace Go.Proofs.YtplfnlalmcpcaaaGreat
open Go.RowKit
set_option linter.unusedVariables false
abbrev Pt := Int × ByteArray
/-- A slice of pairs that reads as these, below block B. -/
def RiU (B : Nat) (w : World) (v : Value) (ps : List Pt) : Prop := ∃ (A : Option Addr) (cap : Nat), v = .slice A ps.length cap ∧ ps.length ≤ cap ∧ cap ≤ maxLen ∧
  ∀ (i : Nat) (hi : i < ps.length), ∃ (b o : Nat), A = some ⟨b, o, none⟩ ∧ b < B ∧ w.cell? ⟨b, o + i * 2, none⟩ = some (.int .i64 ps[i].1) ∧ w.cell? ⟨b, o + i * 2 + 1, none⟩ = some (.string ps[i].2) ∧ InI ps[i].1 ∧ ps[i].2.size ≤ maxLen
theorem RiU.up {B B' : Nat} {w w' : World} {v : Value} {ps : List Pt} (h : RiU B w v ps) (hB : B ≤ B') (hw : Below B w w') : RiU B' w' v ps := by
  obtain ⟨A, cap, hv, h1, h2, h3⟩ := h
  refine ⟨A, cap, hv, h1, h2, fun i hi => ?_⟩
  obtain ⟨b, o, hA, hb, hc1, hc2, hr⟩ := h3 i hi
  exact ⟨b, o, hA, by omega, by rw [hw.cell hb]; exact hc1, by rw [hw.cell hb]; exact hc2, hr⟩
theorem RiU.at {B : Nat} {w w' : World} {v : Value} {ps : List Pt} (h : RiU B w v ps) (hB : B ≤ w.heap.size) (hw : Below w.heap.size w w') : RiU w'.heap.size w' v ps :=
  (h.up (Nat.le_refl _) (hw.mono hB)).up (Nat.le_trans hB hw.size) (Below.refl _ _)
theorem RiU.nil (B : Nat) (w : World) : RiU B w (.slice none 0 0) [] := ⟨none, 0, rfl, Nat.le_refl _, by decide, fun i hi => by simp at hi⟩
theorem Rd.riu {f B : Nat} {w : World} {v : Value} {d : D} (h : Rd f B w (.sl .put) v d) : ∃ ps : List Pt, RiU B w v ps := by
  obtain ⟨f', rows, A, cap, _, _, rfl, hl, hc, hx⟩ := Rd.sl h
  have each : ∀ i, i < rows.length → ∃ x : Pt, ∃ (b o : Nat), A = some ⟨b, o, none⟩ ∧ b < B ∧ w.cell? ⟨b, o + i * 2, none⟩ = some (.int .i64 x.1) ∧ w.cell? ⟨b, o + i * 2 + 1, none⟩ = some (.string x.2) ∧ InI x.1 ∧ x.2.size ≤ maxLen := by
    intro i hi
    obtain ⟨b, o, cs, hA, hb, hc, hd⟩ := hx i rows[i] (List.getElem?_eq_getElem hi)
    generalize rows[i] = row at *
    obtain ⟨c, d, vs', ds', rfl, rfl, hd1, hn⟩ := RdsOf.cons hd
    obtain ⟨c2, d2, vs2, ds2, rfl, rfl, hd2, hn2⟩ := RdsOf.cons hn
    obtain ⟨rfl, rfl⟩ := RdsOf.nil hn2
    obtain ⟨n, _, rfl, hI⟩ := Rd.int hd1
    obtain ⟨x, _, rfl, hm⟩ := Rd.str hd2
    exact ⟨(n, x), b, o, hA, hb, hc 0 _ rfl, hc 1 _ rfl, hI, hm⟩
  obtain ⟨xs, hl2, hx2⟩ := list_of rows.length each
  exact ⟨xs, A, cap, by rw [hl2], by omega, hc, fun i hi => hx2 i hi⟩
theorem RiU.wf {B : Nat} {w : World} {v : Value} {ps : List Pt} (h : RiU B w v ps) : ∀ p ∈ ps, InI p.1 ∧ p.2.size ≤ maxLen := by
  obtain ⟨A, cap, hv, h1, h2, h3⟩ := h
  intro p hp
  obtain ⟨i, hi, rfl⟩ := List.getElem_of_mem hp
  obtain ⟨b, o, hA, hb, _, _, hr⟩ := h3 i hi
  exact hr
def flatP : List Pt → List Value
  | [] => []
  | p :: ps => .int .i64 p.1 :: .string p.2 :: flatP ps
theorem flatP_len : ∀ ps : List Pt, (flatP ps).length = ps.length * 2
  | [] => rfl
  | p :: ps => by simp [flatP, flatP_len ps]; omega
theorem flatP_at : ∀ (ps : List Pt) (i : Nat) (h : i < ps.length), (flatP ps)[i * 2]? = some (.int .i64 ps[i].1) ∧ (flatP ps)[i * 2 + 1]? = some (.string ps[i].2)
  | p :: ps, 0, _ => ⟨rfl, rfl⟩
  | p :: ps, i + 1, h => by
    have e1 : (i + 1) * 2 = i * 2 + 2 := by omega
    rw [e1]
    exact flatP_at ps i (Nat.lt_of_succ_lt_succ h)
theorem flatP_append : ∀ ps qs : List Pt, flatP (ps ++ qs) = flatP ps ++ flatP qs
  | [], _ => rfl
  | p :: ps, qs => by simp [flatP, flatP_append ps qs]
theorem flatP_one : ∀ ps : List Pt, ∀ u ∈ flatP ps, u.oneCell' = true
  | [], u, h => by simp [flatP] at h
  | p :: ps, u, h => by
    simp only [flatP, List.mem_cons] at h
    rcases h with rfl | rfl | h
    · rfl
    · rfl
    · exact flatP_one ps u h
def cellsU (ps : List Pt) : Array Value := (flatP ps).toArray
/-- A block that holds these pairs. -/
def RowU (w : World) (b : Nat) (ps : List Pt) : Prop := w.heap[b]? = some (.cells (cellsU ps) 178 (0, 0))
theorem cellsU_of {C : Array Value} {ps : List Pt} (hs : C.size = ps.length * 2) (h : ∀ j (hj : j < ps.length), C[j * 2]? = some (.int .i64 ps[j].1) ∧ C[j * 2 + 1]? = some (.string ps[j].2)) : C = cellsU ps := by
  apply Array.ext (by simp [cellsU, flatP_len, hs])
  intro i h1 h2
  have hi : i / 2 < ps.length := by omega
  have hc := h (i / 2) hi
  have hf := flatP_at ps (i / 2) hi
  have key : ∀ q, q = i → C[q]? = (flatP ps)[q]? → C[i] = (cellsU ps)[i] := fun q hq he => by
    subst hq
    have e1 : C[q]? = some C[q] := Array.getElem?_eq_getElem h1
    have e2 : (flatP ps)[q]? = some (cellsU ps)[q] := by simp [cellsU]
    rw [e1, e2] at he
    exact Option.some.inj he
  rcases Nat.mod_two_eq_zero_or_one i with hm | hm
  · exact key (i / 2 * 2) (by omega) (hc.1.trans hf.1.symm)
  · exact key (i / 2 * 2 + 1) (by omega) (hc.2.trans hf.2.symm)
/-- A list of pairs of one's own. -/
def OU (w : World) (lo : Nat) (v : Value) (ps : List Pt) : Prop := w.ownsRow lo 178 2 v ps.length (flatP ps)
theorem OU.sl {w : World} {lo : Nat} {v : Value} {ps : List Pt} (h : OU w lo v ps) : (v = .slice none 0 0 ∧ ps = []) ∨ ∃ g cap, v = .slice (some ⟨g, 0, none⟩) ps.length cap ∧ lo ≤ g ∧ g < w.heap.size ∧ ps.length ≤ cap ∧ cap ≤ maxLen := by
  rcases own_sl h with ⟨h1, h2⟩ | h1
  · exact .inl ⟨h1, List.eq_nil_of_length_eq_zero h2⟩
  · exact .inr h1
theorem OU.cell {w : World} {lo g cap n : Nat} {ps : List Pt} (h : OU w lo (.slice (some ⟨g, 0, none⟩) n cap) ps) (j : Nat) (hj : j < ps.length) : w.cell? ⟨g, j * 2, none⟩ = some (.int .i64 ps[j].1) ∧ w.cell? ⟨g, j * 2 + 1, none⟩ = some (.string ps[j].2) := by
  have h1 := World.ownsRow.cells (g := g) h rfl (j * 2) _ (flatP_at ps j hj).1
  have h2 := World.ownsRow.cells (g := g) h rfl (j * 2 + 1) _ (flatP_at ps j hj).2
  rw [add_at, Nat.zero_add] at h1 h2
  exact ⟨h1, h2⟩
theorem OU.riu {w : World} {lo : Nat} {v : Value} {ps : List Pt} (h : OU w lo v ps) (hi : ∀ p ∈ ps, InI p.1 ∧ p.2.size ≤ maxLen) : RiU w.heap.size w v ps := by
  rcases h.sl with ⟨rfl, rfl⟩ | ⟨g, cap, rfl, hlo, hg, hn, hm⟩
  · exact RiU.nil _ _
  · exact ⟨_, cap, rfl, hn, hm, fun i hi2 => ⟨g, 0, rfl, hg, by rw [Nat.zero_add]; exact (h.cell i hi2).1, by rw [Nat.zero_add]; exact (h.cell i hi2).2, hi _ (List.getElem_mem hi2)⟩⟩
theorem OU.of_row {w : World} {lo b : Nat} {ps : List Pt} (h : RowU w b ps) (hlo : lo ≤ b) (hl : ps.length ≤ maxLen) : OU w lo (.slice (some ⟨b, 0, none⟩) ps.length ps.length) ps := by
  refine ⟨by rw [flatP_len], .inr ⟨b, ps.length, cellsU ps, rfl, hlo, h, Nat.le_refl _, hl, by simp [cellsU, flatP_len], ?_⟩⟩
  simp only [cellsU]
  rw [List.take_of_length_le (by rw [flatP_len]; exact Nat.le_refl _)]
def SmU (ps : List Pt) : Prop := ps.length ≤ 1048576 ∧ ∀ p ∈ ps, p.2.size ≤ 1048576
theorem two_cells {w : World} {b o : Nat} {u1 u2 : Value} (h1 : w.cell? ⟨b, o, none⟩ = some u1) (h2 : w.cell? ⟨b, o + 1, none⟩ = some u2) : ∀ (j : Nat) (u : Value), [u1, u2][j]? = some u → w.cell? ⟨b, o + j, none⟩ = some u := fun j u hj => by
  rcases j with _ | _ | j
  · obtain rfl := Option.some.inj hj; exact h1
  · obtain rfl := Option.some.inj hj; exact h2
  · simp at hj
theorem there_row {w : World} {b o n : Nat} {C : Array Value} {t : TypeId} (h : w.heap[b]? = some (.cells C t (0, 0))) (hn : o + n ≤ C.size) : w.there b o n := fun j hj =>
  ⟨by rw [cell_of_row _ _ _ _ _ _ h, Array.getElem?_eq_getElem (by omega)]; rfl, frozen_of_row _ _ _ _ _ h⟩
theorem heap_setCells2 {w : World} {b o : Nat} {C : Array Value} {t : TypeId} (u1 u2 : Value) (h : w.heap[b]? = some (.cells C t (0, 0))) : (w.setCells b o [u1, u2]).heap[b]? = some (.cells ((C.setIfInBounds o u1).setIfInBounds (o + 1) u2) t (0, 0)) := by
  show ((w.setCell ⟨b, o, none⟩ u1).setCell ⟨b, o + 1, none⟩ u2).heap[b]? = _
  exact heap_setCell_same _ _ _ _ _ _ (heap_setCell_same _ _ _ _ _ _ h)
set_option maxHeartbeats 400000 in
theorem szPut_any (n : Int) (s : ByteArray) (w : World) (L : Int) (h0 : 0 ≤ L) (h1 : L ≤ 1048576) (hs : s.size ≤ maxLen) :
    Calls Tryz.prog 134 #[.agg #[.int .i64 n, .string s], .int .i64 L] w (Left L (s.size ≤ 1048576) w) := by
  have hp : (s.size : Int) ≤ L → s.size ≤ 1048576 := fun h => by omega
  generalize (s.size ≤ 1048576) = P at *
  have Hp := Lib.hid hp; clear hp
  unfold maxLen at hs
  by_cases hn : L < (s.size : Int)
  · go_enter Tryz.func134, Tryz.ntmps134
    go_wp2
    go_ret
    exact ⟨-1, rfl, by omega, by omega, by omega, (Below.refl _ _).alloc (Nat.le_refl _) _⟩
  · go_enter Tryz.func134, Tryz.ntmps134
    go_wp2
    go_ret
    exact ⟨L - s.size, rfl, by omega, by omega, fun _ => Hp.out (by omega), (Below.refl _ _).alloc (Nat.le_refl _) _⟩
set_option maxHeartbeats 400000 in
set_option maxRecDepth 100000 in
theorem szPuts_any {B : Nat} {w : World} {v : Value} {ps : List Pt} (h : RiU B w v ps) (hB : B ≤ w.heap.size) (L : Int) (h0 : 0 ≤ L) (h1 : L ≤ 1048576) :
    Calls Tryz.prog 79 #[v, .int .i64 L] w (Left L (SmU ps) w) := by
  obtain ⟨A, cap, rfl, hl, hc, hx⟩ := h
  have hs : ps.length ≤ 1048576 → (∀ j (hj : j < ps.length), ps[j].2.size ≤ 1048576) → SmU ps := fun h h2 => ⟨h, fun p hp => by
    obtain ⟨j, hj, rfl⟩ := List.getElem_of_mem hp
    exact h2 j hj⟩
  generalize SmU ps = P at *
  unfold maxLen at hc
  have Hs := Lib.hid hs; have Hx := Lib.hid hx; clear hs hx
  by_cases hn : L < (ps.length : Int)
  · go_enter Tryz.func79, Tryz.ntmps79
    go_wp2
    go_ret
    exact ⟨-1, rfl, by omega, by omega, by omega, Below.refl _ _⟩
  · go_enter Tryz.func79, Tryz.ntmps79
    go_wp2
    go_loopw [1, 5] (fun l i wr => ∃ k : Nat, ∃ n : Int, k ≤ ps.length ∧ i = .int .i64 k ∧ l = .int .i64 n ∧ 0 ≤ n ∧ n ≤ L ∧ Below w.heap.size w wr ∧ ∀ j (hj : j < ps.length), j < k → ps[j].2.size ≤ 1048576) (fun _ i _ => ps.length - (intOf i).toNat)
    case atStart => exact ⟨0, _, Nat.zero_le _, rfl, rfl, by omega, by omega, Below.refl _ _, fun j hj h => absurd h (by omega)⟩
    case round =>
      obtain ⟨k, n, hk, rfl, rfl, hn0, hnL, hbel, hall⟩ := hrel
      have Hall := Lib.hid hall; clear hall
      have Hbel := Lib.hid hbel
      have hsz := hbel.size
      by_cases hlt : k < ps.length
      · obtain ⟨b, o, rfl, hb, hc1, hc2, hI, hm⟩ := Hx.out k hlt
        have Hld := Lib.hid (run_load_cells (P := Tryz.prog) wr b (o + k * 2) 177 _ [.int .i64 ps[k].1, .string ps[k].2] (two_cells (by rw [hbel.cell (show b < _ from by omega)]; exact hc1) (by rw [hbel.cell (show b < _ from by omega)]; exact hc2)) Tryz.underlying177 (by kernel_rfl))
        clear hc1 hc2 hbel
        go_wp2_with (refine wpList_load_agg rfl 177 (.tmp 20) rfl _ rfl _ Hld.out ?_)
        refine (szPut_any _ _ _ n hn0 (by omega) hm).mono ?_
        rintro e w1 ⟨n1, rfl, hn1, hn1L, hp1, hbel1⟩
        have Hp1 := Lib.hid hp1; clear hp1
        have Hbel2 := Lib.hid (Hbel.out.trans (hbel1.mono hsz))
        clear hbel1
        by_cases hneg : n1 < 0
        · go_wp2
          go_ret
          exact ⟨-1, rfl, by omega, by omega, by omega, Hbel2.out⟩
        · have Hall2 : Hid (∀ j (hj : j < ps.length), j < k + 1 → ps[j].2.size ≤ 1048576) := Lib.hid (fun j hj hjk => by
            rcases Nat.lt_or_ge j k with h | h
            · exact Hall.out j hj h
            · obtain rfl : j = k := by omega
              exact Hp1.out (by omega))
          go_wp2
          go_roundw
          case rel => exact ⟨k + 1, n1, by omega, by go_num, rfl, by omega, by omega, Hbel2.out, Hall2.out⟩
          case measure => simp [intOf]; omega
      · have Hp : Hid P := Lib.hid (Hs.out (by omega) (fun j hj => Hall.out j hj (by omega)))
        clear hbel
        go_wp2
        go_ret
        exact ⟨n, rfl, by omega, by omega, fun _ => Hp.out, Hbel.out⟩
theorem Tryz.infoU : (Tryz.prog.info? 178).map (fun i => (i.zero.isSome, i.size, i.bytes)) = some (true, 2, 24) := by kernel_rfl
set_option maxHeartbeats 400000 in
theorem toPut_any (n : Int) (s : ByteArray) (w : World) :
    Calls Tryz.prog 136 #[.agg #[.int .i64 n, .string s]] w (GivesB (.agg #[.int .i64 n, .string s]) w) := by
  go_enter Tryz.func136, Tryz.ntmps136
  go_wp2
  refine bodyPost_ret (v := .agg #[.int .i64 n, .string s]) ?_ rfl ⟨rfl, ?_⟩
  · simp [results, Tryz.results136, go_sem]
  · exact (((Below.refl _ _).alloc (Nat.le_refl _) _).alloc (by simp) _).alloc (by simp; omega) _
set_option maxHeartbeats 400000 in
theorem eqPut_any (n : Int) (s : ByteArray) (w : World) :
    Calls Tryz.prog 146 #[.agg #[.int .i64 n, .string s], .agg #[.int .i64 n, .string s]] w (GivesB (.bool true) w) := by
  go_enter Tryz.func146, Tryz.ntmps146
  go_wp2
  go_ret
  exact ⟨rfl, ((Below.refl _ _).alloc (Nat.le_refl _) _).alloc (by simp) _⟩
set_option maxHeartbeats 1000000 in
set_option maxRecDepth 100000 in
theorem toPuts_any {B : Nat} {w : World} {v : Value} {ps : List Pt} (h : RiU B w v ps) (hB : B ≤ w.heap.size) (hs : ps.length ≤ 1048576) :
    Calls Tryz.prog 91 #[v] w fun e w' => e = .returned (.slice (some ⟨w.heap.size, 0, none⟩) ps.length ps.length) ∧ RowU w' w.heap.size ps ∧ Below w.heap.size w w' := by
  obtain ⟨A, cap, rfl, hl, hc, hx⟩ := h
  obtain ⟨C, hC, hmk⟩ := make_all (P := Tryz.prog) 32 178 ps.length 2 24 Tryz.underlying32 Tryz.infoU (by omega) (by omega)
  have Hx := Lib.hid hx; have HC := Lib.hid hC
  clear hx hC
  unfold maxLen at hc
  have HB0 : Hid (Below w.heap.size w (w.alloc (.cells C 178))) := Lib.hid ((Below.refl _ w).alloc (Nat.le_refl _) _)
  have HR0 : Hid ((w.alloc (.cells C 178)).heap[w.heap.size]? = some (.cells C 178 (0, 0))) := Lib.hid (heap_alloc_new w _)
  have HZ0 : Hid (w.heap.size < (w.alloc (.cells C 178)).heap.size) := Lib.hid (by simp)
  go_enter Tryz.func91, Tryz.ntmps91
  go_wp2
  go_loopw [4] (fun i wr => ∃ k : Nat, ∃ C' : Array Value, k ≤ ps.length ∧ i = .int .i64 k ∧ wr.heap[w.heap.size]? = some (.cells C' 178 (0, 0)) ∧ C'.size = ps.length * 2 ∧ (∀ j (hj : j < ps.length), j < k → C'[j * 2]? = some (.int .i64 ps[j].1) ∧ C'[j * 2 + 1]? = some (.string ps[j].2)) ∧ w.heap.size < wr.heap.size ∧ Below w.heap.size w wr) (fun i _ => ps.length - (intOf i).toNat)
  case atStart => exact ⟨0, C, Nat.zero_le _, rfl, HR0.out, HC.out, fun j hj h => absurd h (by omega), HZ0.out, HB0.out⟩
  case round =>
    obtain ⟨k, C', hk, rfl, hrow, hsz, hall, hws, hbel⟩ := hrel
    have Hall := Lib.hid hall; have Hsz := Lib.hid hsz
    have Hrow := Lib.hid hrow; have Hbel := Lib.hid hbel
    clear hall hsz
    by_cases hlt : k < ps.length
    · obtain ⟨b, o, rfl, hb, hc1, hc2, hI, hm⟩ := Hx.out k hlt
      have Hld := Lib.hid (run_load_cells (P := Tryz.prog) wr b (o + k * 2) 177 _ [.int .i64 ps[k].1, .string ps[k].2] (two_cells (by rw [hbel.cell (show b < _ from by omega)]; exact hc1) (by rw [hbel.cell (show b < _ from by omega)]; exact hc2)) Tryz.underlying177 (by kernel_rfl))
      clear hc1 hc2 hbel hrow hI hm
      go_wp2_with (refine wpList_load_agg rfl 177 (.tmp 18) rfl _ rfl _ Hld.out ?_)
      refine (toPut_any _ _ _).mono ?_
      rintro e w1 ⟨rfl, hb1⟩
      have hz1 := hb1.size
      have Hrow1 : Hid (w1.heap[w.heap.size]? = some (.cells C' 178 (0, 0))) := Lib.hid (by rw [hb1.block _ hws]; exact Hrow.out)
      have Hth : Hid (w1.there w.heap.size (k * 2) 2) := Lib.hid (there_row Hrow1.out (by rw [Hsz.out]; omega))
      have Hnew := Lib.hid (heap_setCells2 (o := k * 2) (.int .i64 ps[k].1) (.string ps[k].2) Hrow1.out)
      have Hb2 : Hid (Below w.heap.size w (w1.setCells w.heap.size (k * 2) [.int .i64 ps[k].1, .string ps[k].2])) := Lib.hid (below_setCells (Nat.le_refl _) _ _ (Hbel.out.trans (hb1.mono (by omega))))
      have Hz2 : Hid (w.heap.size < (w1.setCells w.heap.size (k * 2) [.int .i64 ps[k].1, .string ps[k].2]).heap.size) := Lib.hid (by rw [size_setCells]; omega)
      have Hall2 : Hid (∀ j (hj : j < ps.length), j < k + 1 → ((C'.setIfInBounds (k * 2) (.int .i64 ps[k].1)).setIfInBounds (k * 2 + 1) (.string ps[k].2))[j * 2]? = some (.int .i64 ps[j].1) ∧ ((C'.setIfInBounds (k * 2) (.int .i64 ps[k].1)).setIfInBounds (k * 2 + 1) (.string ps[k].2))[j * 2 + 1]? = some (.string ps[j].2)) := Lib.hid (fun j hj hjk => by
        have hsz := Hsz.out
        by_cases e : k = j
        · subst e
          refine ⟨?_, ?_⟩
          · rw [Array.getElem?_setIfInBounds, if_neg (by omega), Array.getElem?_setIfInBounds, if_pos rfl, if_pos (by omega)]
          · rw [Array.getElem?_setIfInBounds, if_pos rfl, if_pos (by rw [Array.size_setIfInBounds]; omega)]
        · obtain ⟨h1, h2⟩ := Hall.out j hj (by omega)
          refine ⟨?_, ?_⟩
          · rw [Array.getElem?_setIfInBounds, if_neg (by omega), Array.getElem?_setIfInBounds, if_neg (by omega)]; exact h1
          · rw [Array.getElem?_setIfInBounds, if_neg (by omega), Array.getElem?_setIfInBounds, if_neg (by omega)]; exact h2)
      clear hb1
      go_wp2_with (refine wpList_store_mid rfl 178 (.tmp 21) (.tmp 20) rfl _ (k * 2) #[.int .i64 ps[k].1, .string ps[k].2] rfl rfl Hth.out (by kernel_rfl) (by simp [Value.oneCell']) ?_)
      go_roundw
      case rel => exact ⟨k + 1, _, by omega, by go_num, Hnew.out, by simp [Hsz.out], Hall2.out, Hz2.out, Hb2.out⟩
      case measure => simp [intOf]; omega
    · have HP : Hid (RowU wr w.heap.size ps) := Lib.hid (by
        unfold RowU
        rw [← cellsU_of Hsz.out (fun j hj => Hall.out j hj (by omega))]; exact hrow)
      clear hrow hbel
      go_wp2
      go_ret
      exact ⟨rfl, HP.out, Hbel.out⟩
set_option maxHeartbeats 1000000 in
set_option maxRecDepth 100000 in
theorem eqPuts_any {B : Nat} {w : World} {v1 v2 : Value} {ps : List Pt} (h1 : RiU B w v1 ps) (h2 : RiU B w v2 ps) (hB : B ≤ w.heap.size) :
    Calls Tryz.prog 101 #[v1, v2] w (GivesB (.bool true) w) := by
  obtain ⟨A1, c1, rfl, hl1, hm1, hx1⟩ := h1
  obtain ⟨A2, c2, rfl, hl2, hm2, hx2⟩ := h2
  have Hx1 := Lib.hid hx1; have Hx2 := Lib.hid hx2; clear hx1 hx2
  unfold maxLen at hm1 hm2
  go_enter Tryz.func101, Tryz.ntmps101
  go_wp2
  go_loopw [5] (fun i wr => ∃ k : Nat, k ≤ ps.length ∧ i = .int .i64 k ∧ Below w.heap.size w wr) (fun i _ => ps.length - (intOf i).toNat)
  case atStart => exact ⟨0, Nat.zero_le _, rfl, Below.refl _ _⟩
  case round =>
    obtain ⟨k, hk, rfl, hbel⟩ := hrel
    by_cases hlt : k < ps.length
    · obtain ⟨b1, o1, rfl, hb1, hq1, hp1, -⟩ := Hx1.out k hlt
      obtain ⟨b2, o2, rfl, hb2, hq2, hp2, -⟩ := Hx2.out k hlt
      have hbw : Below wr.heap.size wr (wr.drewN 1) := below_draws (Below.refl _ _) 1
      have hbW : Below w.heap.size w (wr.drewN 1) := hbel.trans (hbw.mono hbel.size)
      have Hbel := Lib.hid hbel; have Hbw := Lib.hid hbw
      have G1 := Lib.hid (run_load_cells (P := Tryz.prog) (wr.drewN 1) b1 (o1 + k * 2) 178 _ [.int .i64 ps[k].1, .string ps[k].2] (two_cells (by rw [hbW.cell (show b1 < _ from by omega)]; exact hq1) (by rw [hbW.cell (show b1 < _ from by omega)]; exact hp1)) Tryz.underlying178 (by kernel_rfl))
      have G2 := Lib.hid (run_load_cells (P := Tryz.prog) (wr.drewN 1) b2 (o2 + k * 2) 178 _ [.int .i64 ps[k].1, .string ps[k].2] (two_cells (by rw [hbW.cell (show b2 < _ from by omega)]; exact hq2) (by rw [hbW.cell (show b2 < _ from by omega)]; exact hp2)) Tryz.underlying178 (by kernel_rfl))
      clear hq1 hq2 hp1 hp2 hbel hbw hbW
      go_wp2
      refine wp_region_still_tail 8 (by kernel_rfl) (by kernel_rfl) ?_
      simp only [List.take_succ_cons, List.take_zero, List.drop_succ_cons, List.drop_zero]
      still_step
      still_step
      still_step
      refine wpStill_load rfl 178 (.tmp 19) rfl _ rfl _ G1.out ?_
      still_step
      still_step
      still_step
      refine wpStill_load rfl 178 (.tmp 23) rfl _ rfl _ G2.out ?_
      refine wpStill_nil ?_
      go_wp2_with fail
      refine (eqPut_any _ _ _).mono ?_
      rintro e w1 ⟨rfl, hb1⟩
      have Hb1 : Hid (Below w.heap.size w w1) := Lib.hid (Hbel.out.trans ((Hbw.out.trans (hb1.mono Hbw.out.size)).mono Hbel.out.size))
      clear hb1
      go_wp2
      go_roundw
      case rel => exact ⟨k + 1, by omega, by go_num, Hb1.out⟩
      case measure => simp [intOf]; omega
    · go_wp2
      go_ret
      exact ⟨rfl, hbel⟩
end Go.Proofs.YtplfnlalmcpcaaaGreat
