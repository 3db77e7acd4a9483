/- Contracts of InBoxes, the model's and the program's. No statement is proved here. -/
import Derived.Test.YtaokifppaagalaaInB
namespace Go.Proofs.Ytaokifppaagalaa
open Go.RowKit
set_option linter.unusedVariables false
theorem l07List_is {B : Nat} {w : World} {v : Value} {bs : List Bx} {r : Bool} (hr : boxesOk bs = r) (h : RiB B w v bs) (hB : B ≤ w.heap.size) : Calls Try.prog 93 #[v] w (GivesB (.bool r) w) := by subst hr; exact l07List_any h hB
theorem validBoxes_is {B : Nat} {w : World} {v : Value} {bs : List Bx} {r : Bool} (hr : boxesOk bs = r) (h : RiB B w v bs) (hB : B ≤ w.heap.size) : Calls Try.prog 97 #[v] w (GivesB (.bool r) w) := by subst hr; exact validBoxes_any h hB
theorem inBoxes_no {bs : List Bx} {ys : List Int} (h : boxesOk bs = false) : inBoxes bs ys = false := by simp [inBoxes, h]
theorem inBoxes_bad {bs : List Bx} {ys : List Int} {k : Nat} (h0 : boxesOk bs = true) (hk : k < bs.length) (h : notIn bs ys k = false) : inBoxes bs ys = true := by simp [inBoxes, h0, allTo_bad _ k _ hk h]
theorem inBoxes_end {bs : List Bx} {ys : List Int} (h : allTo (notIn bs ys) bs.length = true) : inBoxes bs ys = false := by simp [inBoxes, h]
theorem notIn_at (bs : List Bx) (ys : List Int) (k : Nat) (hk : k < bs.length) : notIn bs ys k = !inBx bs[k] ys := by unfold notIn; rw [bxAt_at _ _ hk]
set_option maxHeartbeats 2000000 in
set_option maxRecDepth 100000 in
theorem specInBoxes_any {B : Nat} {w : World} {v v3 : Value} {bs : List Bx} {ys : List Int} (h : RiB B w v bs) (h3 : Ri B w v3 ys) (hB : B ≤ w.heap.size) :
    Calls Try.prog 49 #[v, v3] w (GivesB (.bool (inBoxes bs ys)) w) := by
  have H := Lib.hid h; have H3 := Lib.hid h3
  obtain ⟨A, cap, rfl, hl, hc, hx⟩ := h
  obtain ⟨A3, c3, rfl, _⟩ := h3
  have Hx := Lib.hid hx; clear hx
  unfold maxLen at hc
  generalize hr : inBoxes bs ys = r
  have Hr := Lib.hid hr; clear hr
  cases hok : boxesOk bs
  · have Hok := Lib.hid hok
    have Hf : Hid (r = false) := Lib.hid (by rw [← Hr.out]; exact inBoxes_no hok)
    clear hok
    go_enter Try.func49, Try.ntmps49
    go_wp2_with fail
    refine (l07List_is Hok.out H.out hB).mono ?_
    rintro e w1 ⟨rfl, g⟩
    have Hb1 := Lib.hid g; clear g
    go_wp2_with fail
    go_ret
    exact ⟨by rw [Hf.out]; rfl, Hb1.out⟩
  have Hok := Lib.hid hok; clear hok
  go_enter Try.func49, Try.ntmps49
  go_wp2_with fail
  refine (l07List_is Hok.out H.out hB).mono ?_
  rintro e w1 ⟨rfl, g⟩
  have Hb1 := Lib.hid g; clear g
  go_wp2
  go_loopw [5] (fun i wr => ∃ k : Nat, k ≤ bs.length ∧ i = .int .i64 k ∧ Below w.heap.size w wr ∧ allTo (notIn bs ys) k = true) (fun i _ => bs.length - (intOf i).toNat)
  case atStart => exact ⟨0, Nat.zero_le _, rfl, Hb1.out, allTo_zero _⟩
  case round =>
    obtain ⟨k, hk, rfl, hbel, hall⟩ := hrel
    have Hall := Lib.hid hall; have Hbel := Lib.hid hbel
    clear hall
    by_cases hlt : k < bs.length
    · obtain ⟨b, o, u1, u2, rfl, hb, hq1, hq2, hr1, hr2⟩ := Hx.out k hlt
      have g1 : wr.cell? ⟨b, o + k * 2, none⟩ = some u1 := by rw [hbel.cell (show b < _ from by omega)]; exact hq1
      have g2 : wr.cell? ⟨b, o + k * 2 + 1, none⟩ = some u2 := by rw [hbel.cell (show b < _ from by omega)]; exact hq2
      have Hr1 := Lib.hid (hr1.at hB hbel); have Hr2 := Lib.hid (hr2.at hB hbel); have Hr3 := Lib.hid (H3.out.at hB hbel)
      obtain ⟨E1, e1, rfl, _⟩ := hr1
      obtain ⟨E2, e2, rfl, _⟩ := hr2
      have Hp := Lib.hid (notIn_at bs ys k hlt)
      have Hk2 := Lib.hid (allTo_succ (notIn bs ys) k)
      have Hyes : Hid (notIn bs ys k = false → r = true) := Lib.hid (fun h => by rw [← Hr.out]; exact inBoxes_bad Hok.out hlt h)
      have Hbk := Lib.hid (boxesOk_at Hok.out k hlt)
      have hs := hbel.size
      clear hq1 hq2 hbel
      generalize bs[k] = p at *
      by_cases hn : ys.length = p.1.length
      · have hn' : ((p.1.length : Int) = (ys.length : Int)) := by omega
        have hn2 : ((p.1.length : Int) == (ys.length : Int)) = true := by simp; omega
        have Hn := Lib.hid hn; clear hn
        cases hi : inBx p ys
        · have Hi := Lib.hid hi
          have Hall2 : Hid (allTo (notIn bs ys) (k + 1) = true) := Lib.hid (by rw [Hk2.out, Hall.out, Hp.out, hi]; rfl)
          clear hi Hyes
          go_wp2_with fail
          refine (l07In_any Hi.out Hr1.out Hr2.out Hr3.out (Nat.le_refl _) Hbk.out Hn.out).mono ?_
          rintro e w2 ⟨rfl, g⟩
          have Hb2 : Hid (Below w.heap.size w w2) := Lib.hid (Hbel.out.trans (g.mono hs))
          clear g g1 g2
          go_wp2
          go_roundw
          case rel => exact ⟨k + 1, by omega, by go_num, Hb2.out, Hall2.out⟩
          case measure => simp [intOf]; omega
        · have Hi := Lib.hid hi
          have Hf := Lib.hid (Hyes.out (by rw [Hp.out, hi]; rfl))
          clear hi Hyes
          go_wp2_with fail
          refine (l07In_any Hi.out Hr1.out Hr2.out Hr3.out (Nat.le_refl _) Hbk.out Hn.out).mono ?_
          rintro e w2 ⟨rfl, g⟩
          have Hb2 : Hid (Below w.heap.size w w2) := Lib.hid (Hbel.out.trans (g.mono hs))
          clear g g1 g2
          go_wp2
          go_ret
          exact ⟨by rw [Hf.out]; rfl, Hb2.out⟩
      · have Hall2 : Hid (allTo (notIn bs ys) (k + 1) = true) := Lib.hid (by rw [Hk2.out, Hall.out, Hp.out, inBx_len hn]; rfl)
        have hn' : ((p.1.length : Int) == (ys.length : Int)) = false := by simp; omega
        have hn2 : ((p.1.length : Int) != (ys.length : Int)) = true := by simp; omega
        have hn3 : ¬ ((p.1.length : Int) = (ys.length : Int)) := by omega
        clear Hyes hn
        go_wp2
        go_roundw
        case rel => exact ⟨k + 1, by omega, by go_num, Hbel.out, Hall2.out⟩
        case measure => simp [intOf]; omega
    · obtain rfl : k = bs.length := by omega
      have Hf : Hid (r = false) := Lib.hid (by rw [← Hr.out]; exact inBoxes_end Hall.out)
      clear hbel
      go_wp2
      go_ret
      exact ⟨by rw [Hf.out]; rfl, Hbel.out⟩
set_option maxHeartbeats 2000000 in
set_option maxRecDepth 100000 in
/-- The closure of InBoxes: is the element in this box? -/
theorem around_any {B g : Nat} {w : World} {v1 v2 v3 : Value} {p : Bx} {ys : List Int} {r : Bool} (hr : inBx p ys = r) (h1 : Ri B w v1 p.1) (h2 : Ri B w v2 p.2) (h3 : Ri B w v3 ys) (hB : B ≤ w.heap.size) (hok : boxOk p.1 p.2 = true) (hc : w.cell? ⟨g, 0, none⟩ = some v3) (hg : g < w.heap.size) :
    Calls Try.prog 95 #[.agg #[v1, v2], .pointer (some ⟨g, 0, none⟩)] w (GivesB (.bool r) w) := by
  have H1 := Lib.hid h1; have H2 := Lib.hid h2; have H3 := Lib.hid h3
  obtain ⟨A1, c1, rfl, _⟩ := h1
  obtain ⟨A2, c2, rfl, _⟩ := h2
  obtain ⟨A3, c3, rfl, _⟩ := h3
  have Hb0 : Hid (Below w.heap.size w (w.alloc (.cells #[.slice A1 p.1.length c1, .slice A2 p.2.length c2] 55))) := Lib.hid ((Below.refl _ w).alloc (Nat.le_refl _) _)
  have hc2 : (w.alloc (.cells #[.slice A1 p.1.length c1, .slice A2 p.2.length c2] 55)).cell? ⟨g, 0, none⟩ = some (.slice A3 ys.length c3) := by rw [Hb0.out.cell (p := ⟨g, 0, none⟩) hg]; exact hc
  go_enter Try.func95, Try.ntmps95
  go_wp2_with fail
  refine (boxContains_any hr (H1.out.at hB Hb0.out) (H2.out.at hB Hb0.out) (H3.out.at hB Hb0.out) (Nat.le_refl _) hok).mono ?_
  rintro e w1 ⟨rfl, g⟩
  have Hb1 : Hid (Below w.heap.size w w1) := Lib.hid (Hb0.out.trans (g.mono Hb0.out.size))
  clear g hc2 hc
  go_wp2_with fail
  go_ret
  exact ⟨rfl, Hb1.out⟩
set_option maxHeartbeats 2000000 in
set_option maxRecDepth 100000 in
theorem indexFunc_any {B g : Nat} {w : World} {v v3 : Value} {bs : List Bx} {ys : List Int} {r : Bool} (hr : inBoxes bs ys = r) (h : RiB B w v bs) (h3 : Ri B w v3 ys) (hB : B ≤ w.heap.size) (hok : boxesOk bs = true) (hg : g < w.heap.size) (hc : w.cell? ⟨g, 0, none⟩ = some v3) :
    Calls Try.prog 129 #[v, .func (.func 95) #[] #[.pointer (some ⟨g, 0, none⟩)]] w
      fun e w' => (∃ n : Int, e = .returned (.int .i64 n) ∧ -1 ≤ n ∧ n < 9223372036854775808 ∧ decide (0 ≤ n) = r) ∧ Below w.heap.size w w' := by
  have H3 := Lib.hid h3
  obtain ⟨A, cap, rfl, hl, hcc, hx⟩ := h
  obtain ⟨A3, c3, rfl, _⟩ := h3
  have Hx := Lib.hid hx; have Hc := Lib.hid hc; have Hok := Lib.hid hok; have Hr := Lib.hid hr; clear hx hc hok hr
  unfold maxLen at hcc
  go_enter Try.func129, Try.ntmps129
  go_wp2
  go_loopw [8] (fun i wr => ∃ k : Nat, k ≤ bs.length ∧ i = .int .i64 k ∧ Below w.heap.size w wr ∧ allTo (notIn bs ys) k = true) (fun i _ => bs.length - (intOf i).toNat)
  case atStart => exact ⟨0, Nat.zero_le _, rfl, Below.refl _ _, allTo_zero _⟩
  case round =>
    obtain ⟨k, hk, rfl, hbel, hall⟩ := hrel
    have Hall := Lib.hid hall; have Hbel := Lib.hid hbel
    clear hall
    by_cases hlt : k < bs.length
    · obtain ⟨b, o, u1, u2, rfl, hb, hq1, hq2, hr1, hr2⟩ := Hx.out k hlt
      have g1 : wr.cell? ⟨b, o + k * 2, none⟩ = some u1 := by rw [hbel.cell (show b < _ from by omega)]; exact hq1
      have g2 : wr.cell? ⟨b, o + k * 2 + 1, none⟩ = some u2 := by rw [hbel.cell (show b < _ from by omega)]; exact hq2
      have Hr1 := Lib.hid (hr1.at hB hbel); have Hr2 := Lib.hid (hr2.at hB hbel); have Hr3 := Lib.hid (H3.out.at hB hbel)
      have Hcg : Hid (wr.cell? ⟨g, 0, none⟩ = some (.slice A3 ys.length c3)) := Lib.hid (by rw [hbel.cell (p := ⟨g, 0, none⟩) hg]; exact Hc.out)
      obtain ⟨E1, e1, rfl, _⟩ := hr1
      obtain ⟨E2, e2, rfl, _⟩ := hr2
      have Hp := Lib.hid (notIn_at bs ys k hlt)
      have Hk2 := Lib.hid (allTo_succ (notIn bs ys) k)
      have Hyes : Hid (notIn bs ys k = false → r = true) := Lib.hid (fun h => by rw [← Hr.out]; exact inBoxes_bad Hok.out hlt h)
      have Hbk := Lib.hid (boxesOk_at Hok.out k hlt)
      have hs := hbel.size
      have hgl : g < wr.heap.size := by omega
      clear hq1 hq2 hbel
      generalize bs[k] = p at *
      cases hi : inBx p ys
      · have Hi := Lib.hid hi
        have Hall2 : Hid (allTo (notIn bs ys) (k + 1) = true) := Lib.hid (by rw [Hk2.out, Hall.out, Hp.out, hi]; rfl)
        clear hi Hyes
        go_wp2_with fail
        refine (around_any Hi.out Hr1.out Hr2.out Hr3.out (Nat.le_refl _) Hbk.out Hcg.out hgl).mono ?_
        rintro e w2 ⟨rfl, g⟩
        have Hb2 : Hid (Below w.heap.size w w2) := Lib.hid (Hbel.out.trans (g.mono hs))
        clear g g1 g2
        go_wp2
        go_roundw
        case rel => exact ⟨k + 1, by omega, by go_num, Hb2.out, Hall2.out⟩
        case measure => simp [intOf]; omega
      · have Hi := Lib.hid hi
        have Hf := Lib.hid (Hyes.out (by rw [Hp.out, hi]; rfl))
        clear hi Hyes
        go_wp2_with fail
        refine (around_any Hi.out Hr1.out Hr2.out Hr3.out (Nat.le_refl _) Hbk.out Hcg.out hgl).mono ?_
        rintro e w2 ⟨rfl, g⟩
        have Hb2 : Hid (Below w.heap.size w w2) := Lib.hid (Hbel.out.trans (g.mono hs))
        clear g g1 g2
        go_wp2
        go_ret
        exact ⟨⟨(k : Int), rfl, by omega, by omega, by rw [Hf.out]; simp⟩, Hb2.out⟩
    · obtain rfl : k = bs.length := by omega
      have Hf : Hid (r = false) := Lib.hid (by rw [← Hr.out]; exact inBoxes_end Hall.out)
      clear hbel
      go_wp2
      go_ret
      exact ⟨⟨-1, rfl, by omega, by omega, by rw [Hf.out]; rfl⟩, Hbel.out⟩
set_option maxHeartbeats 2000000 in
set_option maxRecDepth 100000 in
theorem containsFunc_any {B g : Nat} {w : World} {v v3 : Value} {bs : List Bx} {ys : List Int} {r : Bool} (hr : inBoxes bs ys = r) (h : RiB B w v bs) (h3 : Ri B w v3 ys) (hB : B ≤ w.heap.size) (hok : boxesOk bs = true) (hg : g < w.heap.size) (hc : w.cell? ⟨g, 0, none⟩ = some v3) :
    Calls Try.prog 98 #[v, .func (.func 95) #[] #[.pointer (some ⟨g, 0, none⟩)]] w (GivesB (.bool r) w) := by
  have H := Lib.hid h; have H3 := Lib.hid h3; have Hc := Lib.hid hc; have Hok := Lib.hid hok; have Hr := Lib.hid hr; clear hc hok hr
  obtain ⟨A, cap, rfl, _⟩ := h
  go_enter Try.func98, Try.ntmps98
  go_wp2_with fail
  refine (indexFunc_any Hr.out H.out H3.out hB Hok.out hg Hc.out).mono ?_
  rintro e w1 ⟨⟨n, rfl, n1, n2, hn⟩, g⟩
  have Hb1 := Lib.hid g; have Hn := Lib.hid hn; clear g hn
  by_cases h0 : 0 ≤ n
  · have Hf : Hid (r = true) := Lib.hid (by rw [← Hn.out]; simpa using h0)
    go_wp2_with fail
    go_ret
    exact ⟨by rw [Hf.out]; first | rfl | simp, Hb1.out⟩
  · have Hf : Hid (r = false) := Lib.hid (by rw [← Hn.out]; simpa using h0)
    have h0' : decide (0 ≤ n) = false := by simpa using h0
    go_wp2_with fail
    go_ret
    exact ⟨by rw [Hf.out]; first | rfl | simp, Hb1.out⟩
set_option maxHeartbeats 2000000 in
set_option maxRecDepth 100000 in
theorem implInBoxes_any {B : Nat} {w : World} {v v3 : Value} {bs : List Bx} {ys : List Int} (h : RiB B w v bs) (h3 : Ri B w v3 ys) (hB : B ≤ w.heap.size) :
    Calls Try.prog 50 #[v, v3] w (GivesB (.bool (inBoxes bs ys)) w) := by
  have H := Lib.hid h; have H3 := Lib.hid h3
  obtain ⟨A, cap, rfl, _⟩ := h
  obtain ⟨A3, c3, rfl, _⟩ := h3
  generalize hr : inBoxes bs ys = r
  have Hr := Lib.hid hr; clear hr
  have Hb0 : Hid (Below w.heap.size w (w.alloc (.cells #[.slice A3 ys.length c3] 22))) := Lib.hid ((Below.refl _ w).alloc (Nat.le_refl _) _)
  have Hc0 : Hid ((w.alloc (.cells #[.slice A3 ys.length c3] 22)).cell? ⟨w.heap.size, 0, none⟩ = some (.slice A3 ys.length c3)) := Lib.hid (by rw [cell_of_row _ _ _ _ _ _ (heap_alloc_new w _)]; rfl)
  have Hz0 : Hid (w.heap.size < (w.alloc (.cells #[.slice A3 ys.length c3] 22)).heap.size) := Lib.hid (by simp)
  cases hok : boxesOk bs
  · have Hok := Lib.hid hok
    have Hf : Hid (r = false) := Lib.hid (by rw [← Hr.out]; exact inBoxes_no hok)
    clear hok
    go_enter Try.func50, Try.ntmps50
    go_wp2_with fail
    refine (validBoxes_is Hok.out (H.out.at hB Hb0.out) (Nat.le_refl _)).mono ?_
    rintro e w1 ⟨rfl, g⟩
    have Hb1 : Hid (Below w.heap.size w w1) := Lib.hid (Hb0.out.trans (g.mono Hb0.out.size))
    clear g
    go_wp2_with fail
    go_ret
    exact ⟨by rw [Hf.out]; rfl, Hb1.out⟩
  have Hok := Lib.hid hok; clear hok
  go_enter Try.func50, Try.ntmps50
  go_wp2_with fail
  refine (validBoxes_is Hok.out (H.out.at hB Hb0.out) (Nat.le_refl _)).mono ?_
  rintro e w1 ⟨rfl, g⟩
  have Hc1 : Hid (w1.cell? ⟨w.heap.size, 0, none⟩ = some (.slice A3 ys.length c3)) := Lib.hid ((g.cell (p := ⟨w.heap.size, 0, none⟩) Hz0.out).trans Hc0.out)
  have Hz1 : Hid (w.heap.size < w1.heap.size) := Lib.hid (by have := Hz0.out; have := g.size; omega)
  have Hb1 : Hid (Below w.heap.size w w1) := Lib.hid (Hb0.out.trans (g.mono Hb0.out.size))
  clear g
  go_wp2_with fail
  refine (containsFunc_any Hr.out (H.out.at hB Hb1.out) (H3.out.at hB Hb1.out) (Nat.le_refl _) Hok.out Hz1.out Hc1.out).mono ?_
  rintro e w2 ⟨rfl, g⟩
  have Hb2 : Hid (Below w.heap.size w w2) := Lib.hid (Hb1.out.trans (g.mono Hb1.out.size))
  clear g
  go_wp2_with fail
  go_ret
  exact ⟨rfl, Hb2.out⟩
end Go.Proofs.Ytaokifppaagalaa
