/- Contract of the program's function that cuts two boxes. No statement is proved here. -/
import Derived.Test.YtaokifppaagalaaCutN
import Derived.Test.YtaokifppaagalaaHeld
namespace Go.Proofs.Ytaokifppaagalaa
open Go.RowKit
set_option linter.unusedVariables false
theorem allTo_congr {p q : Nat → Bool} : ∀ (n : Nat), (∀ i, i < n → p i = q i) → allTo p n = allTo q n
  | 0, _ => rfl
  | n + 1, h => by rw [allTo_succ, allTo_succ, allTo_congr n (fun i hi => h i (by omega)), h n (by omega)]
theorem cutL_in {xs ys : List Int} (hx : ∀ x ∈ xs, InI x) (hy : ∀ y ∈ ys, InI y) : ∀ z ∈ cutL xs ys, InI z := fun z hz => by
  obtain ⟨i, hi, rfl⟩ := List.getElem_of_mem hz
  have hl : (cutL xs ys).length = min xs.length ys.length := by simp [cutL, List.length_zipWith]
  rw [cutL_at xs ys i hi (by omega) (by omega)]
  have h1 := hx _ (List.getElem_mem (show i < xs.length by omega)); have h2 := hy _ (List.getElem_mem (show i < ys.length by omega))
  unfold InI at *; omega
theorem cutM_in {xs ys : List Int} (hx : ∀ x ∈ xs, InI x) (hy : ∀ y ∈ ys, InI y) : ∀ z ∈ cutM xs ys, InI z := fun z hz => by
  obtain ⟨i, hi, rfl⟩ := List.getElem_of_mem hz
  have hl : (cutM xs ys).length = min xs.length ys.length := by simp [cutM, List.length_zipWith]
  rw [cutM_at xs ys i hi (by omega) (by omega)]
  have h1 := hx _ (List.getElem_mem (show i < xs.length by omega)); have h2 := hy _ (List.getElem_mem (show i < ys.length by omega))
  unfold InI at *; omega
theorem cut_boxOk {xs ms ys ns : List Int} (ha : boxOk xs ms = true) (hb : boxOk ys ns = true) (hn : xs.length = ys.length) : boxOk (cutL xs ys) (cutM ms ns) = cutOk xs ms ys ns := by
  obtain ⟨a1, a2, a3⟩ := boxOk_iff ha
  obtain ⟨b1, b2, b3⟩ := boxOk_iff hb
  have hl := cutL_len hn
  have hm := cutM_len (ms := ms) (ns := ns) (by omega)
  have key : allTo (boxP (cutL xs ys) (cutM ms ns)) xs.length = allTo (cutP xs ms ys ns) xs.length := allTo_congr _ (fun i hi => by
    have p1 := boxOk_in ha i (by omega) (by omega)
    have p2 := boxOk_in hb i (by omega) (by omega)
    rw [boxP_at _ _ i (by omega) (by omega), cutP_at i (by omega) (by omega), cutL_at xs ys i _ (by omega) (by omega), cutM_at ms ns i _ (by omega) (by omega), Bool.eq_iff_iff, Bool.and_eq_true, inB_iff, inB_iff, decide_eq_true_iff]
    omega)
  unfold boxOk cutOk
  rw [hl, hm, a2, key]
  have e1 : boxOk xs ms = true := ha
  have e2 : boxOk ys ns = true := hb
  simp [e1, e2, b1, hn]
set_option maxHeartbeats 4000000 in
set_option maxRecDepth 100000 in
theorem implCut_go {B : Nat} {w : World} {v1 v2 v3 v4 : Value} {xs ms ys ns : List Int} (h1 : Ri B w v1 xs) (h2 : Ri B w v2 ms) (h3 : Ri B w v3 ys) (h4 : Ri B w v4 ns) (hB : B ≤ w.heap.size) (ha : boxOk xs ms = true) (hb : boxOk ys ns = true) (hn : xs.length = ys.length) :
    Calls Try.prog 52 #[.agg #[v1, v2], .agg #[v3, v4]] w (AnsAt (cutLo xs ms ys ns) (cutHi xs ms ys ns) (.bool (cutOk xs ms ys ns)) w) := by
  have H1 := Lib.hid h1; have H2 := Lib.hid h2; have H3 := Lib.hid h3; have H4 := Lib.hid h4
  obtain ⟨A1, c1, rfl, hl1, hm1, hx1⟩ := h1
  obtain ⟨A2, c2, rfl, hl2, hm2, hx2⟩ := h2
  obtain ⟨A3, c3, rfl, hl3, hm3, hx3⟩ := h3
  obtain ⟨A4, c4, rfl, hl4, hm4, hx4⟩ := h4
  have Hx1 := Lib.hid hx1; have Hx2 := Lib.hid hx2; have Hx3 := Lib.hid hx3; have Hx4 := Lib.hid hx4; clear hx1 hx2 hx3 hx4
  unfold maxLen at hm1 hm2 hm3 hm4
  generalize hr : cutOk xs ms ys ns = r
  have HL : Hid (cutLo xs ms ys ns = if r then cutL xs ys else []) := Lib.hid (by unfold cutLo; rw [hr])
  have HM : Hid (cutHi xs ms ys ns = if r then cutM ms ns else []) := Lib.hid (by unfold cutHi; rw [hr])
  generalize cutLo xs ms ys ns = Lo at *
  generalize cutHi xs ms ys ns = Hi at *
  have Hr := Lib.hid hr; clear hr
  have HB0 : Hid (Below w.heap.size w (((w.alloc (.cells #[.slice A1 xs.length c1, .slice A2 ms.length c2] 55)).alloc (.cells #[.slice A3 ys.length c3, .slice A4 ns.length c4] 55)).alloc (.cells #[.slice none 0 0, .slice none 0 0] 55))) := Lib.hid ((((Below.refl _ w).alloc (Nat.le_refl _) _).alloc (by simp) _).alloc (by simp; omega) _)
  have Hz0 : Hid ((((w.alloc (.cells #[.slice A1 xs.length c1, .slice A2 ms.length c2] 55)).alloc (.cells #[.slice A3 ys.length c3, .slice A4 ns.length c4] 55)).alloc (.cells #[.slice none 0 0, .slice none 0 0] 55)).heap.size = w.heap.size + 3) := Lib.hid (by simp)
  have Hr0 : Hid ((((w.alloc (.cells #[.slice A1 xs.length c1, .slice A2 ms.length c2] 55)).alloc (.cells #[.slice A3 ys.length c3, .slice A4 ns.length c4] 55)).alloc (.cells #[.slice none 0 0, .slice none 0 0] 55)).heap[w.heap.size + 2]? = some (.cells #[.slice none 0 0, .slice none 0 0] 55 (0, 0))) := Lib.hid (Tri.start w 55 55 #[.slice A1 xs.length c1, .slice A2 ms.length c2] #[.slice A3 ys.length c3, .slice A4 ns.length c4] #[.slice none 0 0, .slice none 0 0]).2.2.1
  have Ha0 : Hid ((((w.alloc (.cells #[.slice A1 xs.length c1, .slice A2 ms.length c2] 55)).alloc (.cells #[.slice A3 ys.length c3, .slice A4 ns.length c4] 55)).alloc (.cells #[.slice none 0 0, .slice none 0 0] 55)).heap[w.heap.size]? = some (.cells #[.slice A1 xs.length c1, .slice A2 ms.length c2] 55 (0, 0))) := Lib.hid (Tri.start w 55 55 #[.slice A1 xs.length c1, .slice A2 ms.length c2] #[.slice A3 ys.length c3, .slice A4 ns.length c4] #[.slice none 0 0, .slice none 0 0]).1
  have Hb0 : Hid ((((w.alloc (.cells #[.slice A1 xs.length c1, .slice A2 ms.length c2] 55)).alloc (.cells #[.slice A3 ys.length c3, .slice A4 ns.length c4] 55)).alloc (.cells #[.slice none 0 0, .slice none 0 0] 55)).heap[w.heap.size + 1]? = some (.cells #[.slice A3 ys.length c3, .slice A4 ns.length c4] 55 (0, 0))) := Lib.hid (Tri.start w 55 55 #[.slice A1 xs.length c1, .slice A2 ms.length c2] #[.slice A3 ys.length c3, .slice A4 ns.length c4] #[.slice none 0 0, .slice none 0 0]).2.1
  have Hi9 : Hid ((Try.prog.info? 55).map (·.size) = some (#[.slice none 0 0, .slice none 0 0] : Array Value).size) := Lib.hid (by kernel_rfl)
  have H19 : Hid ((#[.slice none 0 0, .slice none 0 0] : Array Value).all (·.oneCell') = true) := Lib.hid (by simp [Value.oneCell'])
  have Ho1 := Lib.hid ha; clear ha
  have Ho2 := Lib.hid hb; clear hb
  have hn' : (xs.length : Int) = (ys.length : Int) := by omega
  have Hn := Lib.hid hn; clear hn
  go_enter Try.func52, Try.ntmps52
  go_wp2_with fail
  generalize (((w.alloc (.cells #[.slice A1 xs.length c1, .slice A2 ms.length c2] 55)).alloc (.cells #[.slice A3 ys.length c3, .slice A4 ns.length c4] 55)).alloc (.cells #[.slice none 0 0, .slice none 0 0] 55)) = W0 at *
  refine (implValidBox_is Ho1.out (H1.out.at hB HB0.out) (H2.out.at hB HB0.out) (Nat.le_refl _)).mono ?_
  rintro e W1 ⟨rfl, g⟩
  have HB1 : Hid (Below w.heap.size w W1) := Lib.hid (HB0.out.trans (g.mono HB0.out.size))
  have Hz1 : Hid (w.heap.size + 3 ≤ W1.heap.size) := Lib.hid (by have := Hz0.out; have := g.size; omega)
  have Hr1 : Hid (W1.heap[w.heap.size + 2]? = some (.cells #[.slice none 0 0, .slice none 0 0] 55 (0, 0))) := Lib.hid ((g.block _ (by have := Hz0.out; omega)).trans Hr0.out)
  have Ha1 : Hid (W1.heap[w.heap.size]? = some (.cells #[.slice A1 xs.length c1, .slice A2 ms.length c2] 55 (0, 0))) := Lib.hid ((g.block _ (by have := Hz0.out; omega)).trans Ha0.out)
  have Hb1 : Hid (W1.heap[w.heap.size + 1]? = some (.cells #[.slice A3 ys.length c3, .slice A4 ns.length c4] 55 (0, 0))) := Lib.hid ((g.block _ (by have := Hz0.out; omega)).trans Hb0.out)
  clear g
  have q0 : W1.cell? ⟨w.heap.size, 0, none⟩ = some (.slice A1 xs.length c1) := by rw [cell_of_row _ _ _ _ _ _ Ha1.out]; rfl
  have q1 : W1.cell? ⟨w.heap.size, 1, none⟩ = some (.slice A2 ms.length c2) := by rw [cell_of_row _ _ _ _ _ _ Ha1.out]; rfl
  have q2 : W1.cell? ⟨w.heap.size + 1, 0, none⟩ = some (.slice A3 ys.length c3) := by rw [cell_of_row _ _ _ _ _ _ Hb1.out]; rfl
  have q3 : W1.cell? ⟨w.heap.size + 1, 1, none⟩ = some (.slice A4 ns.length c4) := by rw [cell_of_row _ _ _ _ _ _ Hb1.out]; rfl
  go_wp2_with fail
  clear q0 q1 q2 q3
  refine (implValidBox_is Ho2.out (H3.out.at hB HB1.out) (H4.out.at hB HB1.out) (Nat.le_refl _)).mono ?_
  rintro e W2 ⟨rfl, g⟩
  have HB2 : Hid (Below w.heap.size w W2) := Lib.hid (HB1.out.trans (g.mono HB1.out.size))
  have Hz2 : Hid (w.heap.size + 3 ≤ W2.heap.size) := Lib.hid (by have := Hz1.out; have := g.size; omega)
  have Hr2 : Hid (W2.heap[w.heap.size + 2]? = some (.cells #[.slice none 0 0, .slice none 0 0] 55 (0, 0))) := Lib.hid ((g.block _ (by have := Hz1.out; omega)).trans Hr1.out)
  have Ha2 : Hid (W2.heap[w.heap.size]? = some (.cells #[.slice A1 xs.length c1, .slice A2 ms.length c2] 55 (0, 0))) := Lib.hid ((g.block _ (by have := Hz1.out; omega)).trans Ha1.out)
  have Hb2 : Hid (W2.heap[w.heap.size + 1]? = some (.cells #[.slice A3 ys.length c3, .slice A4 ns.length c4] 55 (0, 0))) := Lib.hid ((g.block _ (by have := Hz1.out; omega)).trans Hb1.out)
  clear g
  have q0 : W2.cell? ⟨w.heap.size, 0, none⟩ = some (.slice A1 xs.length c1) := by rw [cell_of_row _ _ _ _ _ _ Ha2.out]; rfl
  have q1 : W2.cell? ⟨w.heap.size, 1, none⟩ = some (.slice A2 ms.length c2) := by rw [cell_of_row _ _ _ _ _ _ Ha2.out]; rfl
  have q2 : W2.cell? ⟨w.heap.size + 1, 0, none⟩ = some (.slice A3 ys.length c3) := by rw [cell_of_row _ _ _ _ _ _ Hb2.out]; rfl
  have q3 : W2.cell? ⟨w.heap.size + 1, 1, none⟩ = some (.slice A4 ns.length c4) := by rw [cell_of_row _ _ _ _ _ _ Hb2.out]; rfl
  go_wp2_with fail
  clear q0 q1 q2 q3 hn'
  have Hsr : Hid (decide ((xs, ms).1.length = (ys, ns).1.length) = true) := Lib.hid (by simpa using Hn.out)
  refine (sameRank_any (p := (xs, ms)) (q := (ys, ns)) Hsr.out (H1.out.at hB HB2.out) (H2.out.at hB HB2.out) (H3.out.at hB HB2.out) (H4.out.at hB HB2.out) (Nat.le_refl _)).mono ?_
  rintro e W3 ⟨rfl, g⟩
  have HB3 : Hid (Below w.heap.size w W3) := Lib.hid (HB2.out.trans (g.mono HB2.out.size))
  have Hz3 : Hid (w.heap.size + 3 ≤ W3.heap.size) := Lib.hid (by have := Hz2.out; have := g.size; omega)
  have Hr3 : Hid (W3.heap[w.heap.size + 2]? = some (.cells #[.slice none 0 0, .slice none 0 0] 55 (0, 0))) := Lib.hid ((g.block _ (by have := Hz2.out; omega)).trans Hr2.out)
  have Ha3 : Hid (W3.heap[w.heap.size]? = some (.cells #[.slice A1 xs.length c1, .slice A2 ms.length c2] 55 (0, 0))) := Lib.hid ((g.block _ (by have := Hz2.out; omega)).trans Ha2.out)
  have Hb3 : Hid (W3.heap[w.heap.size + 1]? = some (.cells #[.slice A3 ys.length c3, .slice A4 ns.length c4] 55 (0, 0))) := Lib.hid ((g.block _ (by have := Hz2.out; omega)).trans Hb2.out)
  clear g
  have q0 : W3.cell? ⟨w.heap.size, 0, none⟩ = some (.slice A1 xs.length c1) := by rw [cell_of_row _ _ _ _ _ _ Ha3.out]; rfl
  have q1 : W3.cell? ⟨w.heap.size, 1, none⟩ = some (.slice A2 ms.length c2) := by rw [cell_of_row _ _ _ _ _ _ Ha3.out]; rfl
  have q2 : W3.cell? ⟨w.heap.size + 1, 0, none⟩ = some (.slice A3 ys.length c3) := by rw [cell_of_row _ _ _ _ _ _ Hb3.out]; rfl
  have q3 : W3.cell? ⟨w.heap.size + 1, 1, none⟩ = some (.slice A4 ns.length c4) := by rw [cell_of_row _ _ _ _ _ _ Hb3.out]; rfl
  have z3 : w.heap.size < W3.heap.size := by have := Hz3.out; omega
  go_wp2_with fail
  clear q0 q1 q2 q3 z3
  have HG : Hid (∀ b o : Nat, b < w.heap.size → W3.cell? ⟨b, o, none⟩ = w.cell? ⟨b, o, none⟩) := Lib.hid (fun b o h => HB3.out.cell (p := ⟨b, o, none⟩) h)
  have HA0 : Hid (Acc (W3.alloc (.cells #[.slice none 0 0, .slice none 0 0] 55)) W3.heap.size 55 (.slice none 0 0) (.slice none 0 0) ((cutL xs ys).take 0) ((cutM ms ns).take 0)) := Lib.hid (Acc.start W3 55)
  have HB4 : Hid (Below W3.heap.size W3 (W3.alloc (.cells #[.slice none 0 0, .slice none 0 0] 55))) := Lib.hid ((Below.refl _ _).alloc (Nat.le_refl _) _)
  have HlL := Lib.hid (cutL_len Hn.out)
  have Hn2 : Hid (ms.length = ns.length) := Lib.hid (by have h1 := (boxOk_iff Ho1.out).2.1; have h2 := (boxOk_iff Ho2.out).2.1; have := Hn.out; omega)
  have HlM := Lib.hid (cutM_len Hn2.out)
  have Hle3 : Hid (xs.length ≤ 3 ∧ ms.length = xs.length) := Lib.hid ⟨(boxOk_iff Ho1.out).1, (boxOk_iff Ho1.out).2.1⟩
  go_loopw [27] (fun i wr => ∃ (k : Nat) (u1 u2 : Value), k ≤ xs.length ∧ i = .int .i64 k ∧ Acc wr W3.heap.size 55 u1 u2 ((cutL xs ys).take k) ((cutM ms ns).take k) ∧ Below W3.heap.size W3 wr) (fun i _ => xs.length - (intOf i).toNat)
  case atStart => exact ⟨0, _, _, Nat.zero_le _, rfl, HA0.out, HB4.out⟩
  case round =>
    obtain ⟨k, u1, u2, hk, rfl, hacc, hbel⟩ := hrel
    have Hbel := Lib.hid hbel; have Hacc := Lib.hid hacc
    have ez : ∀ (b j : Nat) (v : Value), W3.cell? ⟨b, j, none⟩ = some v → wr.cell? ⟨b, j, none⟩ = some v := fun b j v h => (hbel.cell (p := ⟨b, j, none⟩) (World.block_lt_of_cell? W3 _ h)).trans h
    have q0 : wr.cell? ⟨w.heap.size, 0, none⟩ = some (.slice A1 xs.length c1) := ez _ _ _ (by rw [cell_of_row _ _ _ _ _ _ Ha3.out]; rfl)
    have q1 : wr.cell? ⟨w.heap.size, 1, none⟩ = some (.slice A2 ms.length c2) := ez _ _ _ (by rw [cell_of_row _ _ _ _ _ _ Ha3.out]; rfl)
    have q2 : wr.cell? ⟨w.heap.size + 1, 0, none⟩ = some (.slice A3 ys.length c3) := ez _ _ _ (by rw [cell_of_row _ _ _ _ _ _ Hb3.out]; rfl)
    have q3 : wr.cell? ⟨w.heap.size + 1, 1, none⟩ = some (.slice A4 ns.length c4) := ez _ _ _ (by rw [cell_of_row _ _ _ _ _ _ Hb3.out]; rfl)
    have q5 := hacc.c0
    have q6 := hacc.c1
    have Hsz : Hid (W3.heap.size < wr.heap.size) := Lib.hid hacc.lt
    have HrW : Hid (wr.heap[w.heap.size + 2]? = some (.cells #[.slice none 0 0, .slice none 0 0] 55 (0, 0))) := Lib.hid ((hbel.block _ (by have := Hz3.out; omega)).trans Hr3.out)
    have HBW : Hid (Below w.heap.size w wr) := Lib.hid (HB3.out.trans (hbel.mono HB3.out.size))
    by_cases hlt : k < xs.length
    · have hlt2 : k < ms.length := by have := Hle3.out; omega
      have hlt3 : k < ys.length := by have := Hn.out; omega
      have hlt4 : k < ns.length := by have := Hn2.out; omega
      obtain ⟨b1, o1, rfl, hb1, hx1, hI1⟩ := Hx1.out k hlt
      obtain ⟨b2, o2, rfl, hb2, hx2, hI2⟩ := Hx2.out k hlt2
      obtain ⟨b3, o3, rfl, hb3, hx3, hI3⟩ := Hx3.out k hlt3
      obtain ⟨b4, o4, rfl, hb4, hx4, hI4⟩ := Hx4.out k hlt4
      have g1 := ez _ _ _ ((HG.out b1 (o1 + k) (by omega)).trans hx1)
      have g2 := ez _ _ _ ((HG.out b2 (o2 + k) (by omega)).trans hx2)
      have g3 := ez _ _ _ ((HG.out b3 (o3 + k) (by omega)).trans hx3)
      have g4 := ez _ _ _ ((HG.out b4 (o4 + k) (by omega)).trans hx4)
      have hkL : k < (cutL xs ys).length := by rw [HlL.out]; exact hlt
      have hkM : k < (cutM ms ns).length := by rw [HlM.out]; exact hlt2
      have HeL := Lib.hid (cutL_at xs ys k hkL hlt hlt3)
      have HeM := Lib.hid (cutM_at ms ns k hkM hlt2 hlt4)
      have HtL := Lib.hid (take_push (cutL xs ys) k hkL)
      have HtM := Lib.hid (take_push (cutM ms ns) k hkM)
      have Hnl : Hid (((cutL xs ys).take k).length = k) := Lib.hid (by rw [List.length_take]; omega)
      have Hnm : Hid (((cutM ms ns).take k).length = k) := Lib.hid (by rw [List.length_take]; omega)
      clear hx1 hx2 hx3 hx4 hI1 hI2 hI3 hI4 hbel hacc ez
      generalize (cutL xs ys)[k] = lo at *
      generalize (cutM ms ns)[k] = hi at *
      generalize xs[k] = x at *
      generalize ms[k] = m at *
      generalize ys[k] = y at *
      generalize ns[k] = n at *
      generalize hLk : (cutL xs ys).take k = Lk at *
      generalize hMk : (cutM ms ns).take k = Mk at *
      have HLk := Lib.hid hLk; have HMk := Lib.hid hMk; clear hLk hMk
      have HS1 : Hid (∀ W, Below W3.heap.size wr W → (fun W => W.cell? ⟨w.heap.size, 0, none⟩ = some (.slice (some ⟨b1, o1, none⟩) xs.length c1) ∧ W.cell? ⟨w.heap.size + 1, 0, none⟩ = some (.slice (some ⟨b3, o3, none⟩) ys.length c3) ∧ W.cell? ⟨b1, o1 + k, none⟩ = some (.int .i64 x) ∧ W.cell? ⟨b3, o3 + k, none⟩ = some (.int .i64 y)) W) := Lib.hid (fun W hW => by
        have e : ∀ (b j : Nat) (v : Value), wr.cell? ⟨b, j, none⟩ = some v → b < W3.heap.size → W.cell? ⟨b, j, none⟩ = some v := fun b j v h hb => (hW.cell (p := ⟨b, j, none⟩) hb).trans h
        have z := Hz3.out
        have z1 := HB3.out.size
        exact ⟨e _ _ _ q0 (by omega), e _ _ _ q2 (by omega), e _ _ _ g1 (by omega), e _ _ _ g3 (by omega)⟩)
      have HS2 : Hid (∀ W, Below W3.heap.size wr W → (fun W => W.cell? ⟨w.heap.size, 1, none⟩ = some (.slice (some ⟨b2, o2, none⟩) ms.length c2) ∧ W.cell? ⟨w.heap.size + 1, 1, none⟩ = some (.slice (some ⟨b4, o4, none⟩) ns.length c4) ∧ W.cell? ⟨b2, o2 + k, none⟩ = some (.int .i64 m) ∧ W.cell? ⟨b4, o4 + k, none⟩ = some (.int .i64 n)) W) := Lib.hid (fun W hW => by
        have e : ∀ (b j : Nat) (v : Value), wr.cell? ⟨b, j, none⟩ = some v → b < W3.heap.size → W.cell? ⟨b, j, none⟩ = some v := fun b j v h hb => (hW.cell (p := ⟨b, j, none⟩) hb).trans h
        have z := Hz3.out
        have z1 := HB3.out.size
        exact ⟨e _ _ _ q1 (by omega), e _ _ _ q3 (by omega), e _ _ _ g2 (by omega), e _ _ _ g4 (by omega)⟩)
      have mx1 : (if y > x then y else x) = lo := by rw [HeL.out]; split <;> omega
      have mx2 : (if x < y then y else x) = lo := by rw [HeL.out]; split <;> omega
      have mn1 : (if n < m then n else m) = hi := by rw [HeM.out]; split <;> omega
      clear hkL hkM
      go_wp2
      clear g1 g2 g3 g4 q0 q1 q2 q3 q5 q6
      refine wp_region_held_drew (S := fun W => W.cell? ⟨w.heap.size, 0, none⟩ = some (.slice (some ⟨b1, o1, none⟩) xs.length c1) ∧ W.cell? ⟨w.heap.size + 1, 0, none⟩ = some (.slice (some ⟨b3, o3, none⟩) ys.length c3) ∧ W.cell? ⟨b1, o1 + k, none⟩ = some (.int .i64 x) ∧ W.cell? ⟨b3, o3 + k, none⟩ = some (.int .i64 y)) (by kernel_rfl) (HS1.out _ (Below.refl _ _).drew) (fun hHeld => ?_)
      refine held_yes 0 (some 30) rfl rfl (by kernel_rfl) (by kernel_rfl) (by kernel_rfl) (fun _ _ _ h => h) (by kernel_rfl) hHeld (v := ?_) (fun wz hSw => ?_) ?_
      rotate_left 1
      · (try dsimp only at hSw); go_simp; (try with_reducible rfl)
      try simp only [Act.put, List.setIfInBounds_toArray, List.set_cons_zero, List.set_cons_succ]
      refine held_yes 2 (some 32) rfl rfl (by kernel_rfl) (by kernel_rfl) (by kernel_rfl) (fun _ _ _ h => h) (by kernel_rfl) hHeld (v := ?_) (fun wz hSw => ?_) ?_
      rotate_left 1
      · (try dsimp only at hSw); go_simp; (try with_reducible rfl)
      try simp only [Act.put, List.setIfInBounds_toArray, List.set_cons_zero, List.set_cons_succ]
      refine held_yes 3 (some 33) rfl rfl (by kernel_rfl) (by kernel_rfl) (by kernel_rfl) (fun _ _ _ h => h) (by kernel_rfl) hHeld (v := ?_) (fun wz hSw => ?_) ?_
      rotate_left 1
      · (try dsimp only at hSw); go_simp; (try with_reducible rfl)
      try simp only [Act.put, List.setIfInBounds_toArray, List.set_cons_zero, List.set_cons_succ]
      refine held_yes 4 (some 34) rfl rfl (by kernel_rfl) (by kernel_rfl) (by kernel_rfl) (fun _ _ _ h => h) (by kernel_rfl) hHeld (v := ?_) (fun wz hSw => ?_) ?_
      rotate_left 1
      · (try dsimp only at hSw); go_simp; (try with_reducible rfl)
      try simp only [Act.put, List.setIfInBounds_toArray, List.set_cons_zero, List.set_cons_succ]
      refine held_yes 5 (some 35) rfl rfl (by kernel_rfl) (by kernel_rfl) (by kernel_rfl) (fun _ _ _ h => h) (by kernel_rfl) hHeld (v := ?_) (fun wz hSw => ?_) ?_
      rotate_left 1
      · (try dsimp only at hSw); go_simp; (try with_reducible rfl)
      try simp only [Act.put, List.setIfInBounds_toArray, List.set_cons_zero, List.set_cons_succ]
      refine held_yes 6 (some 36) rfl rfl (by kernel_rfl) (by kernel_rfl) (by kernel_rfl) (fun _ _ _ h => h) (by kernel_rfl) hHeld (v := ?_) (fun wz hSw => ?_) ?_
      rotate_left 1
      · (try dsimp only at hSw); go_simp; (try with_reducible rfl)
      try simp only [Act.put, List.setIfInBounds_toArray, List.set_cons_zero, List.set_cons_succ]
      refine held_yes 7 (some 37) rfl rfl (by kernel_rfl) (by kernel_rfl) (by kernel_rfl) (fun _ _ _ h => h) (by kernel_rfl) hHeld (v := ?_) (fun wz hSw => ?_) ?_
      rotate_left 1
      · (try dsimp only at hSw); go_simp; (try with_reducible rfl)
      try simp only [Act.put, List.setIfInBounds_toArray, List.set_cons_zero, List.set_cons_succ]
      refine held_yes 8 (some 38) rfl rfl (by kernel_rfl) (by kernel_rfl) (by kernel_rfl) (fun _ _ _ h => h) (by kernel_rfl) hHeld (v := ?_) (fun wz hSw => ?_) ?_
      rotate_left 1
      · (try dsimp only at hSw); go_simp; (try with_reducible rfl)
      try simp only [Act.put, List.setIfInBounds_toArray, List.set_cons_zero, List.set_cons_succ]
      refine held_yes 9 (some 39) rfl rfl (by kernel_rfl) (by kernel_rfl) (by kernel_rfl) (fun _ _ _ h => h) (by kernel_rfl) hHeld (v := ?_) (fun wz hSw => ?_) ?_
      rotate_left 1
      · (try dsimp only at hSw); go_simp; (try with_reducible rfl)
      try simp only [Act.put, List.setIfInBounds_toArray, List.set_cons_zero, List.set_cons_succ]
      refine held_yes 10 (some 40) rfl rfl (by kernel_rfl) (by kernel_rfl) (by kernel_rfl) (fun _ _ _ h => h) (by kernel_rfl) hHeld (v := ?_) (fun wz hSw => ?_) ?_
      rotate_left 1
      · (try dsimp only at hSw); go_simp; (try with_reducible rfl)
      try simp only [Act.put, List.setIfInBounds_toArray, List.set_cons_zero, List.set_cons_succ]
      refine held_yes 11 (some 41) rfl rfl (by kernel_rfl) (by kernel_rfl) (by kernel_rfl) (fun _ _ _ h => h) (by kernel_rfl) hHeld (v := ?_) (fun wz hSw => ?_) ?_
      rotate_left 1
      · (try dsimp only at hSw); go_simp; (try with_reducible rfl)
      try simp only [Act.put, List.setIfInBounds_toArray, List.set_cons_zero, List.set_cons_succ]
      refine held_yes 12 (some 42) rfl rfl (by kernel_rfl) (by kernel_rfl) (by kernel_rfl) (fun _ _ _ h => h) (by kernel_rfl) hHeld (v := ?_) (fun wz hSw => ?_) ?_
      rotate_left 1
      · (try dsimp only at hSw); go_simp; (try with_reducible rfl)
      try simp only [Act.put, List.setIfInBounds_toArray, List.set_cons_zero, List.set_cons_succ]
      refine wpAnyH_ready (rs := [1, 13]) (by kernel_rfl) (by simp) ?_
      refine AllReadyH.cons rfl (fun K hK => ?_) (AllReadyH.cons rfl (fun K hK => ?_) AllReadyH.nil)
      have qld : wr.drew.cell? ⟨W3.heap.size, 0, none⟩ = some u1 := Hacc.out.c0
      go_simp
      refine hK.out _ _ (HS1.out _ (Below.refl _ _).drew) (fun hHeld => ?_)
      clear hK K qld
      try simp only [Act.put, List.setIfInBounds_toArray, List.set_cons_zero, List.set_cons_succ]
      refine wpAnyH_ready (rs := [13]) (by kernel_rfl) (by simp) ?_
      refine AllReadyH.cons rfl (fun K hK => ?_) AllReadyH.nil
      go_simp
      refine hK.out _ _ (HS1.out _ ((Below.refl _ _).drew.alloc (Nat.le_of_lt Hsz.out) _)) (fun hHeld => ?_)
      clear hK K
      try simp only [Act.put, List.setIfInBounds_toArray, List.set_cons_zero, List.set_cons_succ]
      refine wpAnyH_ready (rs := [14]) (by kernel_rfl) (by simp) ?_
      refine AllReadyH.cons rfl (fun K hK => ?_) AllReadyH.nil
      refine wp_pushd (W := wr.drew) (v := u1) (lo := W3.heap.size + 1) (xs := Lk) (some 44) (by kernel_rfl) (.tmp 31) (.tmp 43) rfl rfl rfl rfl rfl Hacc.out.drew.2.1 Hsz.out (by have := Hnl.out; have := Hle3.out.1; omega) ?_
      intro h1 cap1 w1 ow1 gr1 at1 lt1
      obtain ⟨m1, m2⟩ := Hacc.out.drew.mid0 gr1
      have HP1 := Lib.hid (Hacc.out.drew.push0 ow1 gr1 at1)
      have k1 := push_below Hacc.out.drew.2.1 (Acc.lt Hacc.out.drew) gr1
      refine hK.out _ _ (HS1.out _ ((Below.refl _ _).drew.trans (k1.mono (Nat.le_succ _)))) (fun hHeld => ?_)
      clear hK K k1 ow1 gr1 at1 lt1
      try simp only [Act.put, List.setIfInBounds_toArray, List.set_cons_zero, List.set_cons_succ]
      refine held_yes 15 (some 45) rfl rfl (by kernel_rfl) (by kernel_rfl) (by kernel_rfl) (fun _ _ _ h => h) (by kernel_rfl) hHeld (v := ?_) (fun wz hSw => ?_) ?_
      rotate_left 1
      · (try dsimp only at hSw); go_simp; (try with_reducible rfl)
      try simp only [Act.put, List.setIfInBounds_toArray, List.set_cons_zero, List.set_cons_succ]
      refine wpAnyH_ready (rs := [16]) (by kernel_rfl) (by simp) ?_
      refine AllReadyH.cons rfl (fun K hK => ?_) AllReadyH.nil
      go_simp
      refine hK.out _ _ (HS1.out _ ((Below.refl _ _).drew.trans HP1.out.2)) (fun hHeld => ?_)
      clear hK K m1 m2 hHeld
      try simp only [Act.put, List.setIfInBounds_toArray, List.set_cons_zero, List.set_cons_succ]
      refine wpAnyH_done (by kernel_rfl) ?_ _
      rotate_left
      go_simp
      refine hK.out _ _ (HS1.out _ ((Below.refl _ _).drew.alloc (Nat.le_of_lt Hsz.out) _)) (fun hHeld => ?_)
      clear hK K
      try simp only [Act.put, List.setIfInBounds_toArray, List.set_cons_zero, List.set_cons_succ]
      refine wpAnyH_ready (rs := [1]) (by kernel_rfl) (by simp) ?_
      refine AllReadyH.cons rfl (fun K hK => ?_) AllReadyH.nil
      have qld : (wr.alloc (.cells #[.int .i64 lo] 2)).drew.cell? ⟨W3.heap.size, 0, none⟩ = some u1 := (Hacc.out.drew.keep ((Below.refl _ _).alloc (Nat.le_refl _) _)).c0
      go_simp
      refine hK.out _ _ (HS1.out _ ((Below.refl _ _).drew.alloc (Nat.le_of_lt Hsz.out) _)) (fun hHeld => ?_)
      clear hK K qld
      try simp only [Act.put, List.setIfInBounds_toArray, List.set_cons_zero, List.set_cons_succ]
      refine wpAnyH_ready (rs := [14]) (by kernel_rfl) (by simp) ?_
      refine AllReadyH.cons rfl (fun K hK => ?_) AllReadyH.nil
      refine wp_pushd (W := wr.drew) (v := u1) (lo := W3.heap.size + 1) (xs := Lk) (some 44) (by kernel_rfl) (.tmp 31) (.tmp 43) rfl rfl rfl rfl rfl Hacc.out.drew.2.1 Hsz.out (by have := Hnl.out; have := Hle3.out.1; omega) ?_
      intro h1 cap1 w1 ow1 gr1 at1 lt1
      obtain ⟨m1, m2⟩ := Hacc.out.drew.mid0 gr1
      have HP1 := Lib.hid (Hacc.out.drew.push0 ow1 gr1 at1)
      have k1 := push_below Hacc.out.drew.2.1 (Acc.lt Hacc.out.drew) gr1
      refine hK.out _ _ (HS1.out _ ((Below.refl _ _).drew.trans (k1.mono (Nat.le_succ _)))) (fun hHeld => ?_)
      clear hK K k1 ow1 gr1 at1 lt1
      try simp only [Act.put, List.setIfInBounds_toArray, List.set_cons_zero, List.set_cons_succ]
      refine held_yes 15 (some 45) rfl rfl (by kernel_rfl) (by kernel_rfl) (by kernel_rfl) (fun _ _ _ h => h) (by kernel_rfl) hHeld (v := ?_) (fun wz hSw => ?_) ?_
      rotate_left 1
      · (try dsimp only at hSw); go_simp; (try with_reducible rfl)
      try simp only [Act.put, List.setIfInBounds_toArray, List.set_cons_zero, List.set_cons_succ]
      refine wpAnyH_ready (rs := [16]) (by kernel_rfl) (by simp) ?_
      refine AllReadyH.cons rfl (fun K hK => ?_) AllReadyH.nil
      go_simp
      refine hK.out _ _ (HS1.out _ ((Below.refl _ _).drew.trans HP1.out.2)) (fun hHeld => ?_)
      clear hK K m1 m2 hHeld
      try simp only [Act.put, List.setIfInBounds_toArray, List.set_cons_zero, List.set_cons_succ]
      refine wpAnyH_done (by kernel_rfl) ?_ _
      rotate_left
      all_goals (
        have HV0 := Lib.hid HP1.out.1
        have HV1 := Lib.hid HP1.out.2
        have HZ1 := Lib.hid HP1.out.1.lt
        clear HP1
        try simp only [Exit.then]
        generalize (w1.setCell ⟨W3.heap.size, 0, none⟩ (.slice (some ⟨h1, 0, none⟩) (Lk.length + 1) cap1)) = V1 at *
        go_wp2
        refine wp_region_held_drew (S := fun W => W.cell? ⟨w.heap.size, 1, none⟩ = some (.slice (some ⟨b2, o2, none⟩) ms.length c2) ∧ W.cell? ⟨w.heap.size + 1, 1, none⟩ = some (.slice (some ⟨b4, o4, none⟩) ns.length c4) ∧ W.cell? ⟨b2, o2 + k, none⟩ = some (.int .i64 m) ∧ W.cell? ⟨b4, o4 + k, none⟩ = some (.int .i64 n)) (by kernel_rfl) (HS2.out _ ((Below.refl _ _).drew.trans HV1.out).drew) (fun hHeld => ?_)
        refine held_yes 0 (some 46) rfl rfl (by kernel_rfl) (by kernel_rfl) (by kernel_rfl) (fun _ _ _ h => h) (by kernel_rfl) hHeld (v := ?_) (fun wz hSw => ?_) ?_
        rotate_left 1
        · (try dsimp only at hSw); go_simp; (try with_reducible rfl)
        try simp only [Act.put, List.setIfInBounds_toArray, List.set_cons_zero, List.set_cons_succ]
        refine held_yes 2 (some 48) rfl rfl (by kernel_rfl) (by kernel_rfl) (by kernel_rfl) (fun _ _ _ h => h) (by kernel_rfl) hHeld (v := ?_) (fun wz hSw => ?_) ?_
        rotate_left 1
        · (try dsimp only at hSw); go_simp; (try with_reducible rfl)
        try simp only [Act.put, List.setIfInBounds_toArray, List.set_cons_zero, List.set_cons_succ]
        refine held_yes 3 (some 49) rfl rfl (by kernel_rfl) (by kernel_rfl) (by kernel_rfl) (fun _ _ _ h => h) (by kernel_rfl) hHeld (v := ?_) (fun wz hSw => ?_) ?_
        rotate_left 1
        · (try dsimp only at hSw); go_simp; (try with_reducible rfl)
        try simp only [Act.put, List.setIfInBounds_toArray, List.set_cons_zero, List.set_cons_succ]
        refine held_yes 4 (some 50) rfl rfl (by kernel_rfl) (by kernel_rfl) (by kernel_rfl) (fun _ _ _ h => h) (by kernel_rfl) hHeld (v := ?_) (fun wz hSw => ?_) ?_
        rotate_left 1
        · (try dsimp only at hSw); go_simp; (try with_reducible rfl)
        try simp only [Act.put, List.setIfInBounds_toArray, List.set_cons_zero, List.set_cons_succ]
        refine held_yes 5 (some 51) rfl rfl (by kernel_rfl) (by kernel_rfl) (by kernel_rfl) (fun _ _ _ h => h) (by kernel_rfl) hHeld (v := ?_) (fun wz hSw => ?_) ?_
        rotate_left 1
        · (try dsimp only at hSw); go_simp; (try with_reducible rfl)
        try simp only [Act.put, List.setIfInBounds_toArray, List.set_cons_zero, List.set_cons_succ]
        refine held_yes 6 (some 52) rfl rfl (by kernel_rfl) (by kernel_rfl) (by kernel_rfl) (fun _ _ _ h => h) (by kernel_rfl) hHeld (v := ?_) (fun wz hSw => ?_) ?_
        rotate_left 1
        · (try dsimp only at hSw); go_simp; (try with_reducible rfl)
        try simp only [Act.put, List.setIfInBounds_toArray, List.set_cons_zero, List.set_cons_succ]
        refine held_yes 7 (some 53) rfl rfl (by kernel_rfl) (by kernel_rfl) (by kernel_rfl) (fun _ _ _ h => h) (by kernel_rfl) hHeld (v := ?_) (fun wz hSw => ?_) ?_
        rotate_left 1
        · (try dsimp only at hSw); go_simp; (try with_reducible rfl)
        try simp only [Act.put, List.setIfInBounds_toArray, List.set_cons_zero, List.set_cons_succ]
        refine held_yes 8 (some 54) rfl rfl (by kernel_rfl) (by kernel_rfl) (by kernel_rfl) (fun _ _ _ h => h) (by kernel_rfl) hHeld (v := ?_) (fun wz hSw => ?_) ?_
        rotate_left 1
        · (try dsimp only at hSw); go_simp; (try with_reducible rfl)
        try simp only [Act.put, List.setIfInBounds_toArray, List.set_cons_zero, List.set_cons_succ]
        refine held_yes 9 (some 55) rfl rfl (by kernel_rfl) (by kernel_rfl) (by kernel_rfl) (fun _ _ _ h => h) (by kernel_rfl) hHeld (v := ?_) (fun wz hSw => ?_) ?_
        rotate_left 1
        · (try dsimp only at hSw); go_simp; (try with_reducible rfl)
        try simp only [Act.put, List.setIfInBounds_toArray, List.set_cons_zero, List.set_cons_succ]
        refine held_yes 10 (some 56) rfl rfl (by kernel_rfl) (by kernel_rfl) (by kernel_rfl) (fun _ _ _ h => h) (by kernel_rfl) hHeld (v := ?_) (fun wz hSw => ?_) ?_
        rotate_left 1
        · (try dsimp only at hSw); go_simp; (try with_reducible rfl)
        try simp only [Act.put, List.setIfInBounds_toArray, List.set_cons_zero, List.set_cons_succ]
        refine held_yes 11 (some 57) rfl rfl (by kernel_rfl) (by kernel_rfl) (by kernel_rfl) (fun _ _ _ h => h) (by kernel_rfl) hHeld (v := ?_) (fun wz hSw => ?_) ?_
        rotate_left 1
        · (try dsimp only at hSw); go_simp; (try with_reducible rfl)
        try simp only [Act.put, List.setIfInBounds_toArray, List.set_cons_zero, List.set_cons_succ]
        refine held_yes 12 (some 58) rfl rfl (by kernel_rfl) (by kernel_rfl) (by kernel_rfl) (fun _ _ _ h => h) (by kernel_rfl) hHeld (v := ?_) (fun wz hSw => ?_) ?_
        rotate_left 1
        · (try dsimp only at hSw); go_simp; (try with_reducible rfl)
        try simp only [Act.put, List.setIfInBounds_toArray, List.set_cons_zero, List.set_cons_succ]
        refine wpAnyH_ready (rs := [1, 13]) (by kernel_rfl) (by simp) ?_
        refine AllReadyH.cons rfl (fun K hK => ?_) (AllReadyH.cons rfl (fun K hK => ?_) AllReadyH.nil)
        have qld : V1.drew.cell? ⟨W3.heap.size, 1, none⟩ = some u2 := HV0.out.c1
        go_simp
        refine hK.out _ _ (HS2.out _ ((Below.refl _ _).drew.trans HV1.out).drew) (fun hHeld => ?_)
        clear hK K qld
        try simp only [Act.put, List.setIfInBounds_toArray, List.set_cons_zero, List.set_cons_succ]
        refine wpAnyH_ready (rs := [13]) (by kernel_rfl) (by simp) ?_
        refine AllReadyH.cons rfl (fun K hK => ?_) AllReadyH.nil
        go_simp
        refine hK.out _ _ (HS2.out _ (((Below.refl _ _).drew.trans HV1.out).drew.alloc (Nat.le_of_lt HZ1.out) _)) (fun hHeld => ?_)
        clear hK K
        try simp only [Act.put, List.setIfInBounds_toArray, List.set_cons_zero, List.set_cons_succ]
        refine wpAnyH_ready (rs := [14]) (by kernel_rfl) (by simp) ?_
        refine AllReadyH.cons rfl (fun K hK => ?_) AllReadyH.nil
        refine wp_pushd (W := V1.drew) (v := u2) (lo := W3.heap.size + 1) (xs := Mk) (some 60) (by kernel_rfl) (.tmp 47) (.tmp 59) rfl rfl rfl rfl rfl HV0.out.drew.2.2.1 HZ1.out (by have := Hnm.out; have := Hle3.out.1; omega) ?_
        intro h1 cap1 w1 ow1 gr1 at1 lt1
        obtain ⟨m1, m2⟩ := HV0.out.drew.mid1 gr1
        have HP2 := Lib.hid (HV0.out.drew.push1 ow1 gr1 at1)
        have k1 := push_below HV0.out.drew.2.2.1 (Acc.lt HV0.out.drew) gr1
        refine hK.out _ _ (HS2.out _ (((Below.refl _ _).drew.trans HV1.out).drew.trans (k1.mono (Nat.le_succ _)))) (fun hHeld => ?_)
        clear hK K k1 ow1 gr1 at1 lt1
        try simp only [Act.put, List.setIfInBounds_toArray, List.set_cons_zero, List.set_cons_succ]
        refine held_yes 15 (some 61) rfl rfl (by kernel_rfl) (by kernel_rfl) (by kernel_rfl) (fun _ _ _ h => h) (by kernel_rfl) hHeld (v := ?_) (fun wz hSw => ?_) ?_
        rotate_left 1
        · (try dsimp only at hSw); go_simp; (try with_reducible rfl)
        try simp only [Act.put, List.setIfInBounds_toArray, List.set_cons_zero, List.set_cons_succ]
        refine wpAnyH_ready (rs := [16]) (by kernel_rfl) (by simp) ?_
        refine AllReadyH.cons rfl (fun K hK => ?_) AllReadyH.nil
        go_simp
        refine hK.out _ _ (HS2.out _ (((Below.refl _ _).drew.trans HV1.out).drew.trans HP2.out.2)) (fun hHeld => ?_)
        clear hK K m1 m2 hHeld
        try simp only [Act.put, List.setIfInBounds_toArray, List.set_cons_zero, List.set_cons_succ]
        refine wpAnyH_done (by kernel_rfl) ?_ _
        rotate_left
        go_simp
        refine hK.out _ _ (HS2.out _ (((Below.refl _ _).drew.trans HV1.out).drew.alloc (Nat.le_of_lt HZ1.out) _)) (fun hHeld => ?_)
        clear hK K
        try simp only [Act.put, List.setIfInBounds_toArray, List.set_cons_zero, List.set_cons_succ]
        refine wpAnyH_ready (rs := [1]) (by kernel_rfl) (by simp) ?_
        refine AllReadyH.cons rfl (fun K hK => ?_) AllReadyH.nil
        have qld : (V1.alloc (.cells #[.int .i64 hi] 2)).drew.cell? ⟨W3.heap.size, 1, none⟩ = some u2 := (HV0.out.drew.keep ((Below.refl _ _).alloc (Nat.le_refl _) _)).c1
        go_simp
        refine hK.out _ _ (HS2.out _ (((Below.refl _ _).drew.trans HV1.out).drew.alloc (Nat.le_of_lt HZ1.out) _)) (fun hHeld => ?_)
        clear hK K qld
        try simp only [Act.put, List.setIfInBounds_toArray, List.set_cons_zero, List.set_cons_succ]
        refine wpAnyH_ready (rs := [14]) (by kernel_rfl) (by simp) ?_
        refine AllReadyH.cons rfl (fun K hK => ?_) AllReadyH.nil
        refine wp_pushd (W := V1.drew) (v := u2) (lo := W3.heap.size + 1) (xs := Mk) (some 60) (by kernel_rfl) (.tmp 47) (.tmp 59) rfl rfl rfl rfl rfl HV0.out.drew.2.2.1 HZ1.out (by have := Hnm.out; have := Hle3.out.1; omega) ?_
        intro h1 cap1 w1 ow1 gr1 at1 lt1
        obtain ⟨m1, m2⟩ := HV0.out.drew.mid1 gr1
        have HP2 := Lib.hid (HV0.out.drew.push1 ow1 gr1 at1)
        have k1 := push_below HV0.out.drew.2.2.1 (Acc.lt HV0.out.drew) gr1
        refine hK.out _ _ (HS2.out _ (((Below.refl _ _).drew.trans HV1.out).drew.trans (k1.mono (Nat.le_succ _)))) (fun hHeld => ?_)
        clear hK K k1 ow1 gr1 at1 lt1
        try simp only [Act.put, List.setIfInBounds_toArray, List.set_cons_zero, List.set_cons_succ]
        refine held_yes 15 (some 61) rfl rfl (by kernel_rfl) (by kernel_rfl) (by kernel_rfl) (fun _ _ _ h => h) (by kernel_rfl) hHeld (v := ?_) (fun wz hSw => ?_) ?_
        rotate_left 1
        · (try dsimp only at hSw); go_simp; (try with_reducible rfl)
        try simp only [Act.put, List.setIfInBounds_toArray, List.set_cons_zero, List.set_cons_succ]
        refine wpAnyH_ready (rs := [16]) (by kernel_rfl) (by simp) ?_
        refine AllReadyH.cons rfl (fun K hK => ?_) AllReadyH.nil
        go_simp
        refine hK.out _ _ (HS2.out _ (((Below.refl _ _).drew.trans HV1.out).drew.trans HP2.out.2)) (fun hHeld => ?_)
        clear hK K m1 m2 hHeld
        try simp only [Act.put, List.setIfInBounds_toArray, List.set_cons_zero, List.set_cons_succ]
        refine wpAnyH_done (by kernel_rfl) ?_ _
        rotate_left
        all_goals (
          try simp only [Exit.then]
          go_wp2
          go_roundw
          case rel => exact ⟨k + 1, _, _, by omega, by go_num, HtL.out ▸ HtM.out ▸ HP2.out.1, Hbel.out.trans ((Below.refl _ _).drew.trans (HV1.out.trans ((Below.refl _ _).drew.trans HP2.out.2)))⟩
          case measure => simp [intOf]; omega))
    · obtain rfl : k = xs.length := by omega
      have HT : Hid (Acc wr W3.heap.size 55 u1 u2 (cutL xs ys) (cutM ms ns)) := Lib.hid (by
        have h1 : (cutL xs ys).take xs.length = cutL xs ys := List.take_of_length_le (by rw [HlL.out]; exact Nat.le_refl _)
        have h2 : (cutM ms ns).take xs.length = cutM ms ns := List.take_of_length_le (by rw [HlM.out, Hle3.out.2]; exact Nat.le_refl _)
        have h3 := Hacc.out
        rw [h1, h2] at h3
        exact h3)
      have H29 : Hid ((#[u1, u2] : Array Value).all (·.oneCell') = true) := Lib.hid (by
        obtain ⟨E1, e1, h1⟩ := HT.out.2.1.sl
        obtain ⟨E2, e2, h2⟩ := HT.out.2.2.1.sl
        rw [h1, h2]; simp [Value.oneCell'])
      have HR1 : Hid (Ri wr.heap.size wr u1 (cutL xs ys)) := Lib.hid (HT.out.2.1.ri (cutL_in H1.out.inI H3.out.inI))
      have HR2 : Hid (Ri wr.heap.size wr u2 (cutM ms ns)) := Lib.hid (HT.out.2.2.1.ri (cutM_in H2.out.inI H4.out.inI))
      have Hbo : Hid (boxOk (cutL xs ys) (cutM ms ns) = r) := Lib.hid (by rw [← Hr.out]; exact cut_boxOk Ho1.out Ho2.out Hn.out)
      clear hbel hacc ez q0 q1 q2 q3 q5 q6
      go_wp2_with (refine wpList_load_row rfl 55 (.tmp 6) rfl _ rfl 55 _ (0, 0) _ HT.out.1 Try.underlying55 rfl (by kernel_rfl) ?_)
      refine (implValidBox_is Hbo.out HR1.out HR2.out (Nat.le_refl _)).mono ?_
      rintro e W5 ⟨rfl, g⟩
      have HT5 := Lib.hid (HT.out.keep g)
      have HrW5 : Hid (W5.heap[w.heap.size + 2]? = some (.cells #[.slice none 0 0, .slice none 0 0] 55 (0, 0))) := Lib.hid ((g.block _ (by have := Hz3.out; have := Hsz.out; omega)).trans HrW.out)
      have HBW5 : Hid (Below w.heap.size w W5) := Lib.hid (HBW.out.trans (g.mono HBW.out.size))
      clear g
      cases r
      · go_wp2_with (refine wpList_store_row rfl 55 (.tmp 4) (.tmp 66) rfl (w.heap.size + 2) #[.slice none 0 0, .slice none 0 0] rfl rfl 55 _ HrW5.out Hi9.out rfl H19.out ?_)
        refine bodyPost_ret (v := .tuple #[.agg #[.slice none 0 0, .slice none 0 0], .bool false]) ?_ ?_ ?_
        · exact results_cell_row2 rfl _ _ (w.heap.size + 2) 55 _ (0, 0) _ _ rfl rfl (setRow_heap _ _ _ _ _ _ HrW5.out) Try.underlying55 rfl (by kernel_rfl)
        · rfl
        · rw [HL.out, HM.out]; exact ans_nil _ (below_setRow HBW5.out (by omega) _)
      · go_wp2_with (first | (refine wpList_load_row rfl 55 (.tmp 6) rfl _ rfl 55 _ (0, 0) _ HT5.out.1 Try.underlying55 rfl (by kernel_rfl) ?_) | (refine wpList_store_row rfl 55 (.tmp 4) (.tmp 67) rfl (w.heap.size + 2) #[u1, u2] rfl rfl 55 _ HrW5.out (by kernel_rfl) rfl H29.out ?_))
        refine bodyPost_ret (v := .tuple #[.agg #[u1, u2], .bool true]) ?_ ?_ ?_
        · exact results_cell_row2 rfl _ _ (w.heap.size + 2) 55 _ (0, 0) _ _ rfl rfl (setRow_heap _ _ _ _ _ _ HrW5.out) Try.underlying55 rfl (by kernel_rfl)
        · rfl
        · rw [HL.out, HM.out]; exact HT5.out.ans (Below.refl _ _) (by omega) (by have := Hz3.out; omega) HBW5.out
theorem implCut_any {B : Nat} {w : World} {v1 v2 v3 v4 : Value} {xs ms ys ns : List Int} (h1 : Ri B w v1 xs) (h2 : Ri B w v2 ms) (h3 : Ri B w v3 ys) (h4 : Ri B w v4 ns) (hB : B ≤ w.heap.size) :
    Calls Try.prog 52 #[.agg #[v1, v2], .agg #[v3, v4]] w (AnsAt (cutLo xs ms ys ns) (cutHi xs ms ys ns) (.bool (cutOk xs ms ys ns)) w) := by
  by_cases hno : boxOk xs ms = false ∨ boxOk ys ns = false ∨ ¬ xs.length = ys.length
  · exact implCut_no h1 h2 h3 h4 hB hno
  · simp only [not_or, Bool.not_eq_false, Classical.not_not] at hno
    exact implCut_go h1 h2 h3 h4 hB hno.1 hno.2.1 hno.2.2
end Go.Proofs.Ytaokifppaagalaa
