/- The slot of a name, equal heaps: contracts of both sides. No statement is proved here. -/
import Derived.Test.YtabnglimchjgpaaHpN
namespace Go.Proofs.Ytabnglimchjgpaa
open Go.RowKit
set_option linter.unusedVariables false
theorem bytes_neH {a b : ByteArray} (h : a ≠ b) : (a.toList == b.toList) = false := by
  rw [Bool.eq_false_iff]
  intro e
  have e := eq_of_beq e
  apply h
  apply ByteArray.ext
  apply Array.toList_inj.1
  rw [Lib.toList_data, Lib.toList_data] at e
  exact e
set_option maxHeartbeats 2000000 in
set_option maxRecDepth 100000 in
theorem l16Slot_any {B : Nat} {w : World} {v : Value} {ss : List ByteArray} (x : ByteArray) (h : RiT B w v ss) (hB : B ≤ w.heap.size) :
    Calls Try.prog 56 #[.agg #[v], .string x] w (GivesB (.int .i64 (slI ss x)) w) := by
  obtain ⟨A, cap, rfl, hl, hm, hx⟩ := h
  unfold maxLen at hm
  have Hx := Lib.hid hx; clear hx
  have Hyes : Hid (∀ k (hk : k < ss.length), ss[k] = x → (∀ i (hi : i < ss.length), i < k → ss[i] ≠ x) → slI ss x = (k : Int)) := Lib.hid (fun k hk he hall => slI_some hk he hall)
  have Hno : Hid ((∀ i (hi : i < ss.length), ss[i] ≠ x) → slI ss x = -1) := Lib.hid slI_none
  generalize slI ss x = r at *
  have HB0 : Hid (Below w.heap.size w (w.alloc (.cells #[.slice A ss.length cap] 27))) := Lib.hid ((Below.refl _ w).alloc (Nat.le_refl _) _)
  have HZ0 : Hid (w.heap.size < (w.alloc (.cells #[.slice A ss.length cap] 27)).heap.size) := Lib.hid (by simp)
  have HQ0 := Lib.hid (row1 w (.slice A ss.length cap) 27)
  have q0 := HQ0.out
  go_enter Try.func56, Try.ntmps56
  go_wp2_with fail
  clear q0
  generalize (w.alloc (.cells #[.slice A ss.length cap] 27)) = w0 at *
  go_loopw [5] (fun i wr => ∃ k : Nat, k ≤ ss.length ∧ i = .int .i64 (k : Int) ∧ Below w0.heap.size w0 wr ∧ ∀ i (hi : i < ss.length), i < k → ss[i] ≠ x) (fun i _ => ss.length - (intOf i).toNat)
  case atStart => exact ⟨0, Nat.zero_le _, rfl, Below.refl _ _, fun j _ h => absurd h (by omega)⟩
  case round =>
    obtain ⟨k, hk, rfl, hbel, hall⟩ := hrel
    have Hall := Lib.hid hall; have Hbel := Lib.hid hbel; clear hall
    have q0 : wr.cell? ⟨w.heap.size, 0, none⟩ = some (.slice A ss.length cap) := (hbel.cell (p := ⟨w.heap.size, 0, none⟩) HZ0.out).trans HQ0.out
    have Hbw : Hid (Below w.heap.size w wr) := Lib.hid (HB0.out.trans (hbel.mono HB0.out.size))
    by_cases hlt : k < ss.length
    · obtain ⟨b, o, rfl, hb, hc, -⟩ := Hx.out k hlt
      have g1 := (Hbw.out.cell (p := ⟨b, o + k, none⟩) (show b < _ by omega)).trans hc
      have Hall2 : Hid (ss[k] ≠ x → ∀ i (hi : i < ss.length), i < k + 1 → ss[i] ≠ x) := Lib.hid (fun h i hi hik => by
        rcases Nat.lt_or_ge i k with h3 | h3
        · exact Hall.out i hi h3
        · obtain rfl : i = k := by omega
          exact h)
      have HY : Hid (ss[k] = x → r = (k : Int)) := Lib.hid (fun h => Hyes.out k hlt h Hall.out)
      clear hc hbel
      generalize ss[k] = z at *
      by_cases hz : z = x
      · have Hf := Lib.hid (HY.out hz)
        subst hz
        clear HY Hall2
        go_wp2_with fail
        go_ret
        exact ⟨by rw [Hf.out]; rfl, Hbw.out⟩
      · have Hn := Lib.hid (Hall2.out hz)
        have x1 := bytes_neH hz
        clear HY Hall2 hz
        go_wp2_with fail
        go_roundw
        case rel => exact ⟨k + 1, by omega, by go_num, Hbel.out, Hn.out⟩
        case measure => simp [intOf]; omega
    · obtain rfl : k = ss.length := by omega
      have Hf := Lib.hid (Hno.out fun i hi => Hall.out i hi hi)
      clear hbel
      go_wp2_with fail
      go_ret
      exact ⟨by rw [Hf.out]; rfl, Hbw.out⟩
set_option maxHeartbeats 2000000 in
set_option maxRecDepth 100000 in
theorem slIndex_any {B : Nat} {w : World} {v : Value} {ss : List ByteArray} (x : ByteArray) (h : RiT B w v ss) (hB : B ≤ w.heap.size) :
    Calls Try.prog 66 #[v, .string x] w (GivesB (.int .i64 (slI ss x)) w) := by
  obtain ⟨A, cap, rfl, hl, hm, hx⟩ := h
  unfold maxLen at hm
  have Hx := Lib.hid hx; clear hx
  have Hyes : Hid (∀ k (hk : k < ss.length), ss[k] = x → (∀ i (hi : i < ss.length), i < k → ss[i] ≠ x) → slI ss x = (k : Int)) := Lib.hid (fun k hk he hall => slI_some hk he hall)
  have Hno : Hid ((∀ i (hi : i < ss.length), ss[i] ≠ x) → slI ss x = -1) := Lib.hid slI_none
  generalize slI ss x = r at *
  go_enter Try.func66, Try.ntmps66
  go_wp2_with fail
  go_loopw [8] (fun i wr => ∃ k : Nat, k ≤ ss.length ∧ i = .int .i64 (k : Int) ∧ Below w.heap.size w wr ∧ ∀ i (hi : i < ss.length), i < k → ss[i] ≠ x) (fun i _ => ss.length - (intOf i).toNat)
  case atStart => exact ⟨0, Nat.zero_le _, rfl, Below.refl _ _, fun j _ h => absurd h (by omega)⟩
  case round =>
    obtain ⟨k, hk, rfl, hbel, hall⟩ := hrel
    have Hall := Lib.hid hall; have Hbel := Lib.hid hbel; clear hall
    by_cases hlt : k < ss.length
    · obtain ⟨b, o, rfl, hb, hc, -⟩ := Hx.out k hlt
      have g1 := (hbel.cell (p := ⟨b, o + k, none⟩) (show b < _ by omega)).trans hc
      have Hall2 : Hid (ss[k] ≠ x → ∀ i (hi : i < ss.length), i < k + 1 → ss[i] ≠ x) := Lib.hid (fun h i hi hik => by
        rcases Nat.lt_or_ge i k with h3 | h3
        · exact Hall.out i hi h3
        · obtain rfl : i = k := by omega
          exact h)
      have HY : Hid (ss[k] = x → r = (k : Int)) := Lib.hid (fun h => Hyes.out k hlt h Hall.out)
      clear hc hbel
      generalize ss[k] = z at *
      by_cases hz : z = x
      · have Hf := Lib.hid (HY.out hz)
        subst hz
        clear HY Hall2
        go_wp2_with fail
        go_ret
        exact ⟨by rw [Hf.out]; rfl, Hbel.out⟩
      · have Hn := Lib.hid (Hall2.out hz)
        have x1 := bytes_neH (fun e => hz e.symm)
        clear HY Hall2 hz
        go_wp2_with fail
        go_roundw
        case rel => exact ⟨k + 1, by omega, by go_num, Hbel.out, Hn.out⟩
        case measure => simp [intOf]; omega
    · obtain rfl : k = ss.length := by omega
      have Hf := Lib.hid (Hno.out fun i hi => Hall.out i hi hi)
      clear hbel
      go_wp2_with fail
      go_ret
      exact ⟨by rw [Hf.out]; rfl, Hbel.out⟩
theorem slV_inv {ss : List ByteArray} {x : ByteArray} (h : hpOk ss = false) : slV ss x = -1 := by simp [slV, h]
theorem slV_mt {ss : List ByteArray} {x : ByteArray} (h : x.size = 0) : slV ss x = -1 := by simp [slV, h]
theorem slV_y {ss : List ByteArray} {x : ByteArray} (h : hpOk ss = true) (h2 : x.size ≠ 0) : slV ss x = slI ss x := by simp [slV, h, h2]
set_option maxHeartbeats 2000000 in
set_option maxRecDepth 100000 in
theorem specSlotOf_any {B : Nat} {w : World} {v : Value} {ss : List ByteArray} {x : ByteArray} (h : RiT B w v ss) (hx : x.size ≤ 1048576) (hB : B ≤ w.heap.size) (hs : SmT ss) :
    Calls Try.prog 29 #[.agg #[v], .string x] w (GivesB (.int .i64 (slV ss x)) w) := by
  have H := Lib.hid h
  obtain ⟨A, cap, rfl, hl, hm, -⟩ := h
  have HB0 : Hid (Below w.heap.size w (w.alloc (.cells #[.slice A ss.length cap] 27))) := Lib.hid ((Below.refl _ w).alloc (Nat.le_refl _) _)
  have R0 : Hid ((w.alloc (.cells #[.slice A ss.length cap] 27)).heap[w.heap.size]? = some (.cells #[.slice A ss.length cap] 27 (0, 0))) := Lib.hid (heap_alloc_new w _)
  have HZ0 : Hid (w.heap.size < (w.alloc (.cells #[.slice A ss.length cap] 27)).heap.size) := Lib.hid (by simp)
  have HC := Lib.hid (l16Ok_any (H.out.at hB HB0.out) (Nat.le_refl _) hs)
  have HD := Lib.hid (fun W (hW : Below w.heap.size w W) => l16Slot_any x (H.out.at hB hW) (Nat.le_refl _))
  clear hs
  have HI : Hid (hpOk ss = false → slV ss x = -1) := Lib.hid slV_inv
  have HM : Hid (x.size = 0 → slV ss x = -1) := Lib.hid slV_mt
  have HY : Hid (hpOk ss = true → x.size ≠ 0 → slV ss x = slI ss x) := Lib.hid slV_y
  generalize slV ss x = r at *
  generalize slI ss x = i at *
  go_enter Try.func29, Try.ntmps29
  go_wp2_with (refine wpList_load_row rfl 27 (.tmp 2) rfl _ rfl 27 _ (0, 0) _ R0.out Try.underlying27 rfl (by kernel_rfl) ?_)
  generalize (w.alloc (.cells #[.slice A ss.length cap] 27)) = w0 at *
  refine HC.out.mono ?_
  rintro e w1 ⟨rfl, g⟩
  have HB1 := Lib.hid (HB0.out.trans (g.mono HB0.out.size))
  have R1 := Lib.hid ((g.block _ HZ0.out).trans R0.out)
  have q0 : w1.cell? ⟨w.heap.size, 0, none⟩ = some (.slice A ss.length cap) := by rw [cell_of_row _ _ _ _ _ _ R1.out]; rfl
  have HE := Lib.hid (HD.out w1 HB1.out)
  clear g HC HD
  cases hok : hpOk ss
  · have Hf := Lib.hid (HI.out hok)
    clear hok
    go_wp2_with fail
    go_ret
    exact ⟨by rw [Hf.out]; rfl, HB1.out⟩
  have Hok := Lib.hid hok; clear hok
  by_cases hz : x.size = 0
  · have Hf := Lib.hid (HM.out hz)
    have e1 := mt_isEmpty hz
    clear hz
    go_wp2_with fail
    go_ret
    exact ⟨by rw [Hf.out]; rfl, HB1.out⟩
  have Hf := Lib.hid (HY.out Hok.out hz)
  have e1 := toList_ne x (by omega)
  clear hz
  go_wp2_with (refine wpList_load_row rfl 27 (.tmp 2) rfl _ rfl 27 _ (0, 0) _ R1.out Try.underlying27 rfl (by kernel_rfl) ?_)
  refine HE.out.mono ?_
  rintro e w2 ⟨rfl, g⟩
  have HB2 := Lib.hid (HB1.out.trans (g.mono HB1.out.size))
  clear g
  go_wp2_with fail
  go_ret
  exact ⟨by rw [Hf.out]; rfl, HB2.out⟩
set_option maxHeartbeats 2000000 in
set_option maxRecDepth 100000 in
theorem implSlotOf_any {B : Nat} {w : World} {v : Value} {ss : List ByteArray} {x : ByteArray} (h : RiT B w v ss) (hx : x.size ≤ 1048576) (hB : B ≤ w.heap.size) (hs : SmT ss) :
    Calls Try.prog 30 #[.agg #[v], .string x] w (GivesB (.int .i64 (slV ss x)) w) := by
  have H := Lib.hid h
  obtain ⟨A, cap, rfl, hl, hm, -⟩ := h
  have HB0 : Hid (Below w.heap.size w (w.alloc (.cells #[.slice A ss.length cap] 27))) := Lib.hid ((Below.refl _ w).alloc (Nat.le_refl _) _)
  have R0 : Hid ((w.alloc (.cells #[.slice A ss.length cap] 27)).heap[w.heap.size]? = some (.cells #[.slice A ss.length cap] 27 (0, 0))) := Lib.hid (heap_alloc_new w _)
  have HZ0 : Hid (w.heap.size < (w.alloc (.cells #[.slice A ss.length cap] 27)).heap.size) := Lib.hid (by simp)
  have HC := Lib.hid (implValidHeap_any (H.out.at hB HB0.out) (Nat.le_refl _) hs)
  have HD := Lib.hid (fun W (hW : Below w.heap.size w W) => slIndex_any x (H.out.at hB hW) (Nat.le_refl _))
  clear hs
  have HI : Hid (hpOk ss = false → slV ss x = -1) := Lib.hid slV_inv
  have HM : Hid (x.size = 0 → slV ss x = -1) := Lib.hid slV_mt
  have HY : Hid (hpOk ss = true → x.size ≠ 0 → slV ss x = slI ss x) := Lib.hid slV_y
  generalize slV ss x = r at *
  generalize slI ss x = i at *
  go_enter Try.func30, Try.ntmps30
  go_wp2_with (refine wpList_load_row rfl 27 (.tmp 2) rfl _ rfl 27 _ (0, 0) _ R0.out Try.underlying27 rfl (by kernel_rfl) ?_)
  generalize (w.alloc (.cells #[.slice A ss.length cap] 27)) = w0 at *
  refine HC.out.mono ?_
  rintro e w1 ⟨rfl, g⟩
  have HB1 := Lib.hid (HB0.out.trans (g.mono HB0.out.size))
  have R1 := Lib.hid ((g.block _ HZ0.out).trans R0.out)
  have q0 : w1.cell? ⟨w.heap.size, 0, none⟩ = some (.slice A ss.length cap) := by rw [cell_of_row _ _ _ _ _ _ R1.out]; rfl
  have HE := Lib.hid (HD.out w1 HB1.out)
  clear g HC HD
  cases hok : hpOk ss
  · have Hf := Lib.hid (HI.out hok)
    clear hok
    go_wp2_with fail
    go_ret
    exact ⟨by rw [Hf.out]; rfl, HB1.out⟩
  have Hok := Lib.hid hok; clear hok
  by_cases hz : x.size = 0
  · have Hf := Lib.hid (HM.out hz)
    have e1 := mt_isEmpty hz
    clear hz
    go_wp2_with fail
    go_ret
    exact ⟨by rw [Hf.out]; rfl, HB1.out⟩
  have Hf := Lib.hid (HY.out Hok.out hz)
  have e1 := toList_ne x (by omega)
  clear hz
  go_wp2_with fail
  refine HE.out.mono ?_
  rintro e w2 ⟨rfl, g⟩
  have HB2 := Lib.hid (HB1.out.trans (g.mono HB1.out.size))
  clear g
  go_wp2_with fail
  go_ret
  exact ⟨by rw [Hf.out]; rfl, HB2.out⟩
def hpSame (xs ys : List ByteArray) : Bool := decide (xs = ys)
set_option maxHeartbeats 1000000 in
theorem l02Texts_any {B : Nat} {w : World} {v u : Value} {xs ys : List ByteArray} (h1 : RiT B w v xs) (h2 : RiT B w u ys) (hB : B ≤ w.heap.size) :
    Calls Try.prog 52 #[v, u] w (GivesB (.bool (hpSame xs ys)) w) := by
  obtain ⟨A1, c1, rfl, hl1, hm1, hx1⟩ := h1
  obtain ⟨A2, c2, rfl, hl2, hm2, hx2⟩ := h2
  have Hx1 := Lib.hid hx1; have Hx2 := Lib.hid hx2; clear hx1 hx2
  unfold maxLen at hm1 hm2
  have Hd : Hid (hpSame xs ys = decide (xs = ys)) := Lib.hid rfl
  by_cases hn : xs.length = ys.length
  · have hn' : (xs.length : Int) = (ys.length : Int) := by omega
    have Hn := Lib.hid hn
    clear hn
    generalize hpSame xs ys = d at *
    go_enter Try.func52, Try.ntmps52
    go_wp2
    clear hn'
    go_loopw [5] (fun i wr => ∃ k : Nat, k ≤ xs.length ∧ i = .int .i64 k ∧ Below w.heap.size w wr ∧ ∀ j (h1 : j < xs.length) (h2 : j < ys.length), j < k → xs[j] = ys[j]) (fun i _ => xs.length - (intOf i).toNat)
    case atStart => exact ⟨0, Nat.zero_le _, rfl, Below.refl _ _, fun j h1 h2 h => absurd h (by omega)⟩
    case round =>
      obtain ⟨k, hk, rfl, hbel, hall⟩ := hrel
      have Hall := Lib.hid hall
      have Hbel := Lib.hid hbel
      clear hall
      by_cases hlt : k < xs.length
      · have hlt2 : k < ys.length := by have := Hn.out; omega
        obtain ⟨b1, o1, rfl, hb1, hq1, hI1⟩ := Hx1.out k hlt
        obtain ⟨b2, o2, rfl, hb2, hq2, hI2⟩ := Hx2.out k hlt2
        have g1 : wr.cell? ⟨b1, o1 + k, none⟩ = some (.string xs[k]) := by rw [hbel.cell (p := ⟨b1, o1 + k, none⟩) (show b1 < _ from by omega)]; exact hq1
        have g2 : wr.cell? ⟨b2, o2 + k, none⟩ = some (.string ys[k]) := by rw [hbel.cell (p := ⟨b2, o2 + k, none⟩) (show b2 < _ from by omega)]; exact hq2
        have Hy : Hid (xs[k] = ys[k] → ∀ j (h1 : j < xs.length) (h2 : j < ys.length), j < k + 1 → xs[j] = ys[j]) := Lib.hid (fun he j h1 h2 h => by
          rcases Nat.lt_or_ge j k with hj | hj
          · exact Hall.out j h1 h2 hj
          · obtain rfl : j = k := by omega
            exact he)
        have Hne : Hid (xs[k] ≠ ys[k] → d = false) := Lib.hid (fun he => by rw [Hd.out, decide_eq_false_iff_not]; rintro rfl; exact he rfl)
        clear hq1 hq2 hbel hI1 hI2
        generalize xs[k] = s at *
        generalize ys[k] = t at *
        by_cases he : s = t
        · have Hall2 := Lib.hid (Hy.out he)
          subst he
          clear Hy Hne
          go_wp2
          go_quiet (fail)
          go_wp2
          go_roundw
          case rel => exact ⟨k + 1, by omega, by go_num, below_draws Hbel.out _, Hall2.out⟩
          case measure => simp [intOf]; omega
        · have Hf := Lib.hid (Hne.out he)
          have x1 := bytes_neH he
          clear he Hy Hne
          go_wp2
          go_quiet (fail)
          go_wp2
          go_ret
          exact ⟨by rw [Hf.out]; rfl, below_draws Hbel.out _⟩
      · have Hf : Hid (d = true) := Lib.hid (by
          rw [Hd.out, decide_eq_true_iff]
          have := Hn.out
          exact List.ext_getElem this (fun j h1 h2 => Hall.out j h1 h2 (by omega)))
        have hlt2 : ¬ k < ys.length := by have := Hn.out; omega
        clear hbel
        go_wp2
        go_ret
        exact ⟨by rw [Hf.out]; rfl, Hbel.out⟩
  · have Hf : Hid (hpSame xs ys = false) := Lib.hid (by rw [Hd.out, decide_eq_false_iff_not]; rintro rfl; exact hn rfl)
    have hn' : ((xs.length : Int) == (ys.length : Int)) = false := by simp; omega
    have hn2 : ((xs.length : Int) != (ys.length : Int)) = true := by simp; omega
    have hn3 : ¬ ((xs.length : Int) = (ys.length : Int)) := by omega
    clear Hd
    generalize hpSame xs ys = d at *
    go_enter Try.func52, Try.ntmps52
    go_wp2
    go_ret
    exact ⟨by rw [Hf.out]; rfl, Below.refl _ _⟩
set_option maxHeartbeats 1000000 in
theorem slEqualT_any {B : Nat} {w : World} {v u : Value} {xs ys : List ByteArray} (h1 : RiT B w v xs) (h2 : RiT B w u ys) (hB : B ≤ w.heap.size) :
    Calls Try.prog 53 #[v, u] w (GivesB (.bool (hpSame xs ys)) w) := by
  obtain ⟨A1, c1, rfl, hl1, hm1, hx1⟩ := h1
  obtain ⟨A2, c2, rfl, hl2, hm2, hx2⟩ := h2
  have Hx1 := Lib.hid hx1; have Hx2 := Lib.hid hx2; clear hx1 hx2
  unfold maxLen at hm1 hm2
  have Hd : Hid (hpSame xs ys = decide (xs = ys)) := Lib.hid rfl
  by_cases hn : xs.length = ys.length
  · have hn' : (xs.length : Int) = (ys.length : Int) := by omega
    have Hn := Lib.hid hn
    clear hn
    generalize hpSame xs ys = d at *
    go_enter Try.func53, Try.ntmps53
    go_wp2
    clear hn'
    go_loopw [13] (fun i wr => ∃ k : Nat, k ≤ xs.length ∧ i = .int .i64 k ∧ Below w.heap.size w wr ∧ ∀ j (h1 : j < xs.length) (h2 : j < ys.length), j < k → xs[j] = ys[j]) (fun i _ => xs.length - (intOf i).toNat)
    case atStart => exact ⟨0, Nat.zero_le _, rfl, Below.refl _ _, fun j h1 h2 h => absurd h (by omega)⟩
    case round =>
      obtain ⟨k, hk, rfl, hbel, hall⟩ := hrel
      have Hall := Lib.hid hall
      have Hbel := Lib.hid hbel
      clear hall
      by_cases hlt : k < xs.length
      · have hlt2 : k < ys.length := by have := Hn.out; omega
        obtain ⟨b1, o1, rfl, hb1, hq1, hI1⟩ := Hx1.out k hlt
        obtain ⟨b2, o2, rfl, hb2, hq2, hI2⟩ := Hx2.out k hlt2
        have g1 : wr.cell? ⟨b1, o1 + k, none⟩ = some (.string xs[k]) := by rw [hbel.cell (p := ⟨b1, o1 + k, none⟩) (show b1 < _ from by omega)]; exact hq1
        have g2 : wr.cell? ⟨b2, o2 + k, none⟩ = some (.string ys[k]) := by rw [hbel.cell (p := ⟨b2, o2 + k, none⟩) (show b2 < _ from by omega)]; exact hq2
        have Hy : Hid (xs[k] = ys[k] → ∀ j (h1 : j < xs.length) (h2 : j < ys.length), j < k + 1 → xs[j] = ys[j]) := Lib.hid (fun he j h1 h2 h => by
          rcases Nat.lt_or_ge j k with hj | hj
          · exact Hall.out j h1 h2 hj
          · obtain rfl : j = k := by omega
            exact he)
        have Hne : Hid (xs[k] ≠ ys[k] → d = false) := Lib.hid (fun he => by rw [Hd.out, decide_eq_false_iff_not]; rintro rfl; exact he rfl)
        clear hq1 hq2 hbel hI1 hI2
        generalize xs[k] = s at *
        generalize ys[k] = t at *
        by_cases he : s = t
        · have Hall2 := Lib.hid (Hy.out he)
          subst he
          clear Hy Hne
          go_wp2
          go_quiet (fail)
          go_wp2
          go_roundw
          case rel => exact ⟨k + 1, by omega, by go_num, below_draws Hbel.out _, Hall2.out⟩
          case measure => simp [intOf]; omega
        · have Hf := Lib.hid (Hne.out he)
          have x1 := bytes_neH he
          clear he Hy Hne
          go_wp2
          go_quiet (fail)
          go_wp2
          go_ret
          exact ⟨by rw [Hf.out]; rfl, below_draws Hbel.out _⟩
      · have Hf : Hid (d = true) := Lib.hid (by
          rw [Hd.out, decide_eq_true_iff]
          have := Hn.out
          exact List.ext_getElem this (fun j h1 h2 => Hall.out j h1 h2 (by omega)))
        have hlt2 : ¬ k < ys.length := by have := Hn.out; omega
        clear hbel
        go_wp2
        go_ret
        exact ⟨by rw [Hf.out]; rfl, Hbel.out⟩
  · have Hf : Hid (hpSame xs ys = false) := Lib.hid (by rw [Hd.out, decide_eq_false_iff_not]; rintro rfl; exact hn rfl)
    have hn' : ((xs.length : Int) == (ys.length : Int)) = false := by simp; omega
    have hn2 : ((xs.length : Int) != (ys.length : Int)) = true := by simp; omega
    have hn3 : ¬ ((xs.length : Int) = (ys.length : Int)) := by omega
    clear Hd
    generalize hpSame xs ys = d at *
    go_enter Try.func53, Try.ntmps53
    go_wp2
    go_ret
    exact ⟨by rw [Hf.out]; rfl, Below.refl _ _⟩
set_option maxHeartbeats 1000000 in
theorem specSameHeap_any {B : Nat} {w : World} {v u : Value} {xs ys : List ByteArray} (h1 : RiT B w v xs) (h2 : RiT B w u ys) (hB : B ≤ w.heap.size) :
    Calls Try.prog 19 #[.agg #[v], .agg #[u]] w (GivesB (.bool (hpSame xs ys)) w) := by
  have H1 := Lib.hid h1; have H2 := Lib.hid h2
  obtain ⟨A1, c1, rfl, -⟩ := h1
  obtain ⟨A2, c2, rfl, -⟩ := h2
  have Hb0 : Hid (Below w.heap.size w ((w.alloc (.cells #[.slice A1 xs.length c1] 27)).alloc (.cells #[.slice A2 ys.length c2] 27))) := Lib.hid (((Below.refl _ w).alloc (Nat.le_refl _) _).alloc (by simp) _)
  have q0 : ((w.alloc (.cells #[.slice A1 xs.length c1] 27)).alloc (.cells #[.slice A2 ys.length c2] 27)).cell? ⟨w.heap.size, 0, none⟩ = some (.slice A1 xs.length c1) := by rw [cell_of_row _ _ _ _ _ _ (heap_alloc2_old w _ _)]; rfl
  have q1 : ((w.alloc (.cells #[.slice A1 xs.length c1] 27)).alloc (.cells #[.slice A2 ys.length c2] 27)).cell? ⟨w.heap.size + 1, 0, none⟩ = some (.slice A2 ys.length c2) := by rw [cell_of_row _ _ _ _ _ _ (heap_alloc2_new w _ _)]; rfl
  have HC := Lib.hid (l02Texts_any (H1.out.at hB Hb0.out) (H2.out.at hB Hb0.out) (Nat.le_refl _))
  generalize hpSame xs ys = r at *
  go_enter Try.func19, Try.ntmps19
  go_wp2_with fail
  refine HC.out.mono ?_
  rintro e w1 ⟨rfl, g⟩
  have Hb1 := Lib.hid (Hb0.out.trans (g.mono Hb0.out.size))
  clear g q0 q1
  go_wp2_with fail
  go_ret
  exact ⟨rfl, Hb1.out⟩
set_option maxHeartbeats 1000000 in
theorem implSameHeap_any {B : Nat} {w : World} {v u : Value} {xs ys : List ByteArray} (h1 : RiT B w v xs) (h2 : RiT B w u ys) (hB : B ≤ w.heap.size) :
    Calls Try.prog 20 #[.agg #[v], .agg #[u]] w (GivesB (.bool (hpSame xs ys)) w) := by
  have H1 := Lib.hid h1; have H2 := Lib.hid h2
  obtain ⟨A1, c1, rfl, -⟩ := h1
  obtain ⟨A2, c2, rfl, -⟩ := h2
  have Hb0 : Hid (Below w.heap.size w ((w.alloc (.cells #[.slice A1 xs.length c1] 27)).alloc (.cells #[.slice A2 ys.length c2] 27))) := Lib.hid (((Below.refl _ w).alloc (Nat.le_refl _) _).alloc (by simp) _)
  have q0 : ((w.alloc (.cells #[.slice A1 xs.length c1] 27)).alloc (.cells #[.slice A2 ys.length c2] 27)).cell? ⟨w.heap.size, 0, none⟩ = some (.slice A1 xs.length c1) := by rw [cell_of_row _ _ _ _ _ _ (heap_alloc2_old w _ _)]; rfl
  have q1 : ((w.alloc (.cells #[.slice A1 xs.length c1] 27)).alloc (.cells #[.slice A2 ys.length c2] 27)).cell? ⟨w.heap.size + 1, 0, none⟩ = some (.slice A2 ys.length c2) := by rw [cell_of_row _ _ _ _ _ _ (heap_alloc2_new w _ _)]; rfl
  have HC := Lib.hid (slEqualT_any (H1.out.at hB Hb0.out) (H2.out.at hB Hb0.out) (Nat.le_refl _))
  generalize hpSame xs ys = r at *
  go_enter Try.func20, Try.ntmps20
  go_wp2_with fail
  refine HC.out.mono ?_
  rintro e w1 ⟨rfl, g⟩
  have Hb1 := Lib.hid (Hb0.out.trans (g.mono Hb0.out.size))
  clear g q0 q1
  go_wp2_with fail
  go_ret
  exact ⟨rfl, Hb1.out⟩
end Go.Proofs.Ytabnglimchjgpaa
