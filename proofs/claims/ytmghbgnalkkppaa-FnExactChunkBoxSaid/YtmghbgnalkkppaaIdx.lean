/- Contracts of the functions on coordinates and linear indices. No statement is proved here. -/
import Derived.Test.YtmghbgnalkkppaaDimC
namespace Go.Proofs.Ytmghbgnalkkppaa
open Go.RowKit
set_option linter.unusedVariables false
theorem Quiet.qs {P : Program} {f : FuncId} {args : Array Value} {w : World} {n : Nat} {v : Value} (h : Calls P f args (w.drewN n) (Quiet v (w.drewN n))) : Calls P f args (w.drewN n) fun e w'' => e = .returned v ∧ ∃ m, w'' = w.drewN m :=
  h.mono fun _ _ ⟨he, hm⟩ => ⟨he, n, hm.symm⟩
def inP (xs ys : List Int) (i : Nat) : Bool := decide (0 ≤ ys.getD i 0) && decide (ys.getD i 0 < xs.getD i 0)
/-- Are these the coordinates of an element? -/
def inside (xs ys : List Int) : Bool := decide (ys.length = xs.length) && allTo (inP xs ys) xs.length
theorem getD_at (xs : List Int) (i : Nat) (h : i < xs.length) : xs.getD i 0 = xs[i] := by rw [List.getD_eq_getElem?_getD, List.getElem?_eq_getElem h]; rfl
/-- The linear index of the first k coordinates. -/
def idxK (xs ys : List Int) : Nat → Int
  | 0 => 0
  | k + 1 => idxK xs ys k * xs.getD k 0 + ys.getD k 0
def idxL (xs ys : List Int) : Int := idxK xs ys xs.length
theorem inside_len {xs ys : List Int} (h : ys.length ≠ xs.length) : inside xs ys = false := by simp [inside, h]
theorem inside_bad {xs ys : List Int} {k : Nat} (hk : k < xs.length) (h : inP xs ys k = false) : inside xs ys = false := by simp [inside, allTo_bad _ k _ hk h]
theorem inside_end {xs ys : List Int} (hl : ys.length = xs.length) (h : allTo (inP xs ys) xs.length = true) : inside xs ys = true := by simp [inside, h, hl]
theorem inside_iff {xs ys : List Int} (h : inside xs ys = true) : ys.length = xs.length ∧ allTo (inP xs ys) xs.length = true := by simpa [inside] using h
theorem inP_at (xs ys : List Int) (i : Nat) (h : i < xs.length) (h2 : i < ys.length) : inP xs ys i = (decide (0 ≤ ys[i]) && decide (ys[i] < xs[i])) := by unfold inP; rw [getD_at _ _ h, getD_at _ _ h2]
theorem inP_no {xs ys : List Int} {i : Nat} (h : i < xs.length) (h2 : i < ys.length) (hb : ys[i] < 0 ∨ xs[i] ≤ ys[i]) : inP xs ys i = false := by rw [inP_at _ _ _ h h2]; simp; omega
theorem inP_yes {xs ys : List Int} {i : Nat} (h : i < xs.length) (h2 : i < ys.length) (hb : 0 ≤ ys[i] ∧ ys[i] < xs[i]) : inP xs ys i = true := by rw [inP_at _ _ _ h h2]; simp; omega
theorem inP_in {xs ys : List Int} {i : Nat} (h : i < xs.length) (h2 : i < ys.length) (hb : inP xs ys i = true) : 0 ≤ ys[i] ∧ ys[i] < xs[i] := by rw [inP_at _ _ _ h h2] at hb; simpa using hb
theorem inP_inB {xs ys : List Int} {i : Nat} (h : i < xs.length) (h2 : i < ys.length) : inB ys[i] 0 (xs[i] - 1) = inP xs ys i := by
  rw [inP_at _ _ _ h h2, inB, Bool.eq_iff_iff]; simp; omega
theorem idx_bd (xs ys : List Int) (hl : xs.length ≤ 3) (hd : allTo (inD xs) xs.length = true) (hy : ys.length = xs.length) (hi : allTo (inP xs ys) xs.length = true) : ∀ k, k ≤ xs.length → 0 ≤ idxK xs ys k ∧ idxK xs ys k < prodK xs k
  | 0, _ => by rw [prodK_zero, idxK]; omega
  | k + 1, hk => by
    have ih := idx_bd xs ys hl hd hy hi k (by omega)
    have hdk := allTo_at hd (show k < xs.length by omega)
    rw [inD_at _ _ (by omega), inB_iff] at hdk
    have hik := inP_in (by omega) (by omega) (allTo_at hi (show k < xs.length by omega))
    rw [idxK, prodK_succ _ _ (by omega), getD_at _ _ (by omega), getD_at _ _ (by omega)]
    generalize idxK xs ys k = a at *
    generalize prodK xs k = p at *
    generalize xs[k] = x at *
    have h1 : 0 ≤ a * x := Int.mul_nonneg ih.1 (by omega)
    have h2 : a * x ≤ (p - 1) * x := Int.mul_le_mul_of_nonneg_right (by omega) (by omega)
    have h3 : (p - 1) * x = p * x - x := by rw [Int.sub_mul, Int.one_mul]
    omega
theorem idx_mul (xs ys : List Int) (hl : xs.length ≤ 3) (hd : allTo (inD xs) xs.length = true) (hy : ys.length = xs.length) (hi : allTo (inP xs ys) xs.length = true) (k : Nat) (hk : k < xs.length) :
    0 ≤ idxK xs ys k * xs[k] ∧ idxK xs ys k * xs[k] ≤ 64000 ∧ 0 ≤ idxK xs ys k * xs[k] + ys[k] ∧ idxK xs ys k * xs[k] + ys[k] ≤ 64000 := by
  have h1 := idx_bd xs ys hl hd hy hi k (by omega)
  have h2 := idx_bd xs ys hl hd hy hi (k + 1) hk
  have hik := inP_in hk (by omega) (allTo_at hi hk)
  have hp := prodK_small xs hl (k + 1) hk (by
    unfold allTo at hd ⊢
    rw [List.all_eq_true] at hd ⊢
    intro i hi
    exact hd i (List.mem_range.2 (by have := List.mem_range.1 hi; omega)))
  rw [idxK, getD_at _ _ hk, getD_at _ _ (by omega)] at h2
  have hdk := allTo_at hd hk
  rw [inD_at _ _ hk, inB_iff] at hdk
  have h3 : 0 ≤ idxK xs ys k * xs[k] := Int.mul_nonneg h1.1 hdk.1
  omega
set_option maxHeartbeats 400000 in
theorem l05Inside_any {B : Nat} {w : World} {v u : Value} {xs ys : List Int} (h : Ri B w v xs) (h2 : Ri B w u ys) (hB : B ≤ w.heap.size) (hd : allTo (inD xs) xs.length = true) :
    Calls Try.prog 42 #[v, u] w (GivesB (.bool (inside xs ys)) w) := by
  obtain ⟨A1, c1, rfl, hl1, hm1, hx1⟩ := h
  obtain ⟨A2, c2, rfl, hl2, hm2, hx2⟩ := h2
  have Hx1 := Lib.hid hx1; have Hx2 := Lib.hid hx2; have Hd := Lib.hid hd; clear hx1 hx2 hd
  unfold maxLen at hm1 hm2
  by_cases hn : ys.length = xs.length
  · go_enter Try.func42, Try.ntmps42
    have hn' : (ys.length : Int) = (xs.length : Int) := by omega
    have Hn := Lib.hid hn
    clear hn
    go_wp2
    clear hn'
    go_loopw [5] (fun i wr => ∃ k : Nat, k ≤ ys.length ∧ i = .int .i64 k ∧ Below w.heap.size w wr ∧ allTo (inP xs ys) k = true) (fun i _ => ys.length - (intOf i).toNat)
    case atStart => exact ⟨0, Nat.zero_le _, rfl, Below.refl _ _, allTo_zero _⟩
    case round =>
      obtain ⟨k, hk, rfl, hbel, hall⟩ := hrel
      have Hall := Lib.hid hall
      have Hbel := Lib.hid hbel
      clear hall
      have hq := Hn.out
      by_cases hlt : k < ys.length
      · have hlt2 : k < xs.length := by omega
        clear hq
        obtain ⟨b1, o1, rfl, hb1, hq1, hI1⟩ := Hx1.out k hlt2
        obtain ⟨b2, o2, rfl, hb2, hq2, hI2⟩ := Hx2.out k hlt
        have g1 : wr.cell? ⟨b1, o1 + k, none⟩ = some (.int .i64 xs[k]) := by rw [hbel.cell (p := ⟨b1, o1 + k, none⟩) (show b1 < _ from by omega)]; exact hq1
        have g2 : wr.cell? ⟨b2, o2 + k, none⟩ = some (.int .i64 ys[k]) := by rw [hbel.cell (p := ⟨b2, o2 + k, none⟩) (show b2 < _ from by omega)]; exact hq2
        have hdk := allTo_at Hd.out hlt2
        rw [inD_at _ _ hlt2, inB_iff] at hdk
        obtain ⟨hd0, hd1⟩ := hdk
        have Hp := Lib.hid (inP_inB (xs := xs) (ys := ys) hlt2 hlt)
        have Hk1 := Lib.hid (allTo_succ (inP xs ys) k)
        have Hbadk : Hid (inP xs ys k = false → inside xs ys = false) := Lib.hid (fun h => inside_bad hlt2 h)
        clear hq1 hq2 hbel hI1 hI2
        generalize hxk : xs[k] = x at *
        generalize hyk : ys[k] = y at *
        generalize hpk : inP xs ys k = p at *
        have Hxk := Lib.hid hxk; have Hyk := Lib.hid hyk
        have Hpk := Lib.hid hpk
        clear hxk hyk hpk
        have hwr : IntKind.i64.wrap (x - 1) = x - 1 := IntWalk.i64_in _ (by omega)
        cases p
        · have Hf := Lib.hid (Hbadk.out rfl)
          clear Hbadk
          go_wp2
          go_quiet ((go_at_call 59; exact Quiet.qs (l00In_no _ _ _ _ Hp.out)))
          go_wp2
          go_ret
          exact ⟨by rw [Hf.out]; rfl, below_draws Hbel.out _⟩
        · have Hall2 : Hid (allTo (inP xs ys) (k + 1) = true) := Lib.hid (by rw [Hk1.out, Hall.out]; rfl)
          go_wp2
          go_quiet ((go_at_call 59; exact Quiet.qs (l00In_yes _ _ _ _ Hp.out)))
          go_wp2
          go_roundw
          case rel => exact ⟨k + 1, by omega, by go_num, below_draws Hbel.out _, Hall2.out⟩
          case measure => simp [intOf]; omega
      · have Hf : Hid (inside xs ys = true) := Lib.hid (inside_end Hn.out (by rw [← Hn.out, show ys.length = k by omega]; exact Hall.out))
        clear hbel hq
        go_wp2
        go_ret
        exact ⟨by rw [Hf.out]; rfl, Hbel.out⟩
  · have Hf := Lib.hid (inside_len hn)
    have hn' : ((ys.length : Int) == (xs.length : Int)) = false := by simp; omega
    have hn2 : ((ys.length : Int) != (xs.length : Int)) = true := by simp; omega
    have hn3 : ¬ ((ys.length : Int) = (xs.length : Int)) := by omega
    go_enter Try.func42, Try.ntmps42
    go_wp2
    go_ret
    exact ⟨by rw [Hf.out]; rfl, Below.refl _ _⟩
set_option maxHeartbeats 400000 in
theorem contain_any {B : Nat} {w : World} {v u : Value} {xs ys : List Int} (h : Ri B w v xs) (h2 : Ri B w u ys) (hB : B ≤ w.heap.size) :
    Calls Try.prog 44 #[v, u] w (Quiet (.bool (inside xs ys)) w) := by
  obtain ⟨A1, c1, rfl, hl1, hm1, hx1⟩ := h
  obtain ⟨A2, c2, rfl, hl2, hm2, hx2⟩ := h2
  have Hx1 := Lib.hid hx1; have Hx2 := Lib.hid hx2; clear hx1 hx2
  unfold maxLen at hm1 hm2
  by_cases hn : ys.length = xs.length
  · go_enter Try.func44, Try.ntmps44
    have hn' : (ys.length : Int) = (xs.length : Int) := by omega
    have Hn := Lib.hid hn
    clear hn
    go_wp2
    clear hn'
    go_loop [14] (fun i => ∃ k : Nat, k ≤ xs.length ∧ i = .int .i64 k ∧ allTo (inP xs ys) k = true) (fun i => xs.length - (intOf i).toNat)
    case atStart => exact ⟨0, Nat.zero_le _, rfl, allTo_zero _⟩
    case round =>
      obtain ⟨k, hk, rfl, hall⟩ := hrel
      have Hall := Lib.hid hall
      clear hall
      have hq := Hn.out
      by_cases hlt : k < xs.length
      · have hlt2 : k < ys.length := by omega
        clear hq
        obtain ⟨b1, o1, rfl, hb1, hq1, hI1⟩ := Hx1.out k hlt
        obtain ⟨b2, o2, rfl, hb2, hq2, hI2⟩ := Hx2.out k hlt2
        by_cases hy0 : ys[k] < 0
        · have Hf := Lib.hid (inside_bad hlt (inP_no hlt hlt2 (.inl hy0)))
          go_wp2
          go_ret
          exact ⟨by rw [Hf.out]; rfl, rfl⟩
        by_cases hy1 : xs[k] ≤ ys[k]
        · have Hf := Lib.hid (inside_bad hlt (inP_no hlt hlt2 (.inr hy1)))
          go_wp2
          go_ret
          exact ⟨by rw [Hf.out]; rfl, rfl⟩
        have Hall2 : Hid (allTo (inP xs ys) (k + 1) = true) := Lib.hid (by rw [allTo_succ, Hall.out, inP_yes hlt hlt2 (by omega)]; rfl)
        go_wp2
        go_round
        case rel => exact ⟨k + 1, by omega, by go_num, Hall2.out⟩
        case measure => simp [intOf]; omega
      · have Hf : Hid (inside xs ys = true) := Lib.hid (inside_end Hn.out (by rw [show xs.length = k by omega]; exact Hall.out))
        clear hq
        go_wp2
        go_ret
        exact ⟨by rw [Hf.out]; rfl, rfl⟩
  · have Hf := Lib.hid (inside_len hn)
    have hn' : ((ys.length : Int) == (xs.length : Int)) = false := by simp; omega
    have hn2 : ((ys.length : Int) != (xs.length : Int)) = true := by simp; omega
    have hn3 : ¬ ((ys.length : Int) = (xs.length : Int)) := by omega
    go_enter Try.func44, Try.ntmps44
    go_wp2
    go_ret
    exact ⟨by rw [Hf.out]; rfl, rfl⟩
/-- Dimensions and coordinates in them. -/
def Fit (xs ys : List Int) : Prop := xs.length ≤ 3 ∧ allTo (inD xs) xs.length = true ∧ ys.length = xs.length ∧ allTo (inP xs ys) xs.length = true
set_option maxHeartbeats 400000 in
theorem l05Index_any {B : Nat} {w : World} {v u : Value} {xs ys : List Int} (h : Ri B w v xs) (h2 : Ri B w u ys) (hB : B ≤ w.heap.size) (hd : Fit xs ys) :
    Calls Try.prog 65 #[v, u] w (GivesB (.int .i64 (idxL xs ys)) w) := by
  obtain ⟨A1, c1, rfl, hl1, hm1, hx1⟩ := h
  obtain ⟨A2, c2, rfl, hl2, hm2, hx2⟩ := h2
  have Hx1 := Lib.hid hx1; have Hx2 := Lib.hid hx2; have Hd := Lib.hid hd; clear hx1 hx2 hd
  unfold maxLen at hm1 hm2
  go_enter Try.func65, Try.ntmps65
  go_wp2
  go_loopw [5, 6] (fun n i wr => ∃ k : Nat, k ≤ xs.length ∧ i = .int .i64 k ∧ n = .int .i64 (idxK xs ys k) ∧ Below w.heap.size w wr) (fun _ i _ => xs.length - (intOf i).toNat)
  case atStart => exact ⟨0, Nat.zero_le _, rfl, rfl, Below.refl _ _⟩
  case round =>
    obtain ⟨k, hk, rfl, rfl, hbel⟩ := hrel
    have Hbel := Lib.hid hbel
    by_cases hlt : k < xs.length
    · have hlt2 : k < ys.length := by have := Hd.out.2.2.1; omega
      obtain ⟨b1, o1, rfl, hb1, hq1, hI1⟩ := Hx1.out k hlt
      obtain ⟨b2, o2, rfl, hb2, hq2, hI2⟩ := Hx2.out k hlt2
      have g1 : wr.cell? ⟨b1, o1 + k, none⟩ = some (.int .i64 xs[k]) := by rw [hbel.cell (p := ⟨b1, o1 + k, none⟩) (show b1 < _ from by omega)]; exact hq1
      have g2 : wr.cell? ⟨b2, o2 + k, none⟩ = some (.int .i64 ys[k]) := by rw [hbel.cell (p := ⟨b2, o2 + k, none⟩) (show b2 < _ from by omega)]; exact hq2
      obtain ⟨m1, m2, m3, m4⟩ := idx_mul xs ys Hd.out.1 Hd.out.2.1 Hd.out.2.2.1 Hd.out.2.2.2 k hlt
      have Hk : Hid (idxK xs ys (k + 1) = idxK xs ys k * xs[k] + ys[k]) := Lib.hid (by rw [idxK, getD_at _ _ hlt, getD_at _ _ hlt2])
      clear hq1 hq2 hbel hI1 hI2
      generalize hxk : xs[k] = x at *
      generalize hyk : ys[k] = y at *
      generalize hpk : idxK xs ys k = p at *
      have Hxk := Lib.hid hxk; have Hyk := Lib.hid hyk
      have Hpk := Lib.hid hpk
      clear hxk hyk hpk
      have w1 : IntKind.i64.wrap (p * x) = p * x := IntWalk.i64_in _ (by omega)
      have w2 : IntKind.i64.wrap (p * x + y) = p * x + y := IntWalk.i64_in _ (by omega)
      go_wp2
      go_quiet (fail)
      clear w1 w2
      go_wp2
      go_roundw
      case rel => exact ⟨k + 1, by omega, by go_num, by rw [Hk.out], below_draws Hbel.out _⟩
      case measure => simp [intOf]; omega
    · obtain rfl : k = xs.length := by omega
      clear hbel
      go_wp2
      go_ret
      exact ⟨rfl, Hbel.out⟩
set_option maxHeartbeats 400000 in
theorem indexOf_any {B : Nat} {w : World} {v u : Value} {xs ys : List Int} (h : Ri B w v xs) (h2 : Ri B w u ys) (hB : B ≤ w.heap.size) (hd : Fit xs ys) :
    Calls Try.prog 66 #[v, u] w (Quiet (.int .i64 (idxL xs ys)) w) := by
  obtain ⟨A1, c1, rfl, hl1, hm1, hx1⟩ := h
  obtain ⟨A2, c2, rfl, hl2, hm2, hx2⟩ := h2
  have Hx1 := Lib.hid hx1; have Hx2 := Lib.hid hx2; have Hd := Lib.hid hd; clear hx1 hx2 hd
  unfold maxLen at hm1 hm2
  go_enter Try.func66, Try.ntmps66
  go_wp2
  go_loop [5, 10] (fun n i => ∃ k : Nat, k ≤ xs.length ∧ i = .int .i64 k ∧ n = .int .i64 (idxK xs ys k)) (fun _ i => xs.length - (intOf i).toNat)
  case atStart => exact ⟨0, Nat.zero_le _, rfl, rfl⟩
  case round =>
    obtain ⟨k, hk, rfl, rfl⟩ := hrel
    by_cases hlt : k < xs.length
    · have hlt2 : k < ys.length := by have := Hd.out.2.2.1; omega
      obtain ⟨b1, o1, rfl, hb1, hq1, hI1⟩ := Hx1.out k hlt
      obtain ⟨b2, o2, rfl, hb2, hq2, hI2⟩ := Hx2.out k hlt2
      obtain ⟨m1, m2, m3, m4⟩ := idx_mul xs ys Hd.out.1 Hd.out.2.1 Hd.out.2.2.1 Hd.out.2.2.2 k hlt
      have Hk : Hid (idxK xs ys (k + 1) = idxK xs ys k * xs[k] + ys[k]) := Lib.hid (by rw [idxK, getD_at _ _ hlt, getD_at _ _ hlt2])
      clear hI1 hI2
      generalize hxk : xs[k] = x at *
      generalize hyk : ys[k] = y at *
      generalize hpk : idxK xs ys k = p at *
      have Hxk := Lib.hid hxk; have Hyk := Lib.hid hyk
      have Hpk := Lib.hid hpk
      clear hxk hyk hpk
      have w1 : IntKind.i64.wrap (p * x) = p * x := IntWalk.i64_in _ (by omega)
      have w2 : IntKind.i64.wrap (p * x + y) = p * x + y := IntWalk.i64_in _ (by omega)
      go_wp2
      go_round
      case rel => exact ⟨k + 1, by omega, by go_num, by rw [Hk.out]⟩
      case measure => simp [intOf]; omega
    · obtain rfl : k = xs.length := by omega
      go_wp2
      go_ret
      exact ⟨rfl, rfl⟩
/-- The linear index, or -1. -/
def indexE (xs ys : List Int) : Int := if dimsOk xs = true ∧ inside xs ys = true then idxL xs ys else -1
theorem Fit.of {xs ys : List Int} (h : dimsOk xs = true) (h2 : inside xs ys = true) : Fit xs ys := ⟨(dimsOk_iff h).1, (dimsOk_iff h).2.1, (inside_iff h2).1, (inside_iff h2).2⟩
theorem dims_yes {B : Nat} {w : World} {v : Value} {xs : List Int} (h : Ri B w v xs) (hd : dimsOk xs = true) : Calls Try.prog 58 #[v] w (Quiet (.bool true) w) := hd ▸ l05Dims_any h
theorem dims_no {B : Nat} {w : World} {v : Value} {xs : List Int} (h : Ri B w v xs) (hd : dimsOk xs = false) : Calls Try.prog 58 #[v] w (Quiet (.bool false) w) := hd ▸ l05Dims_any h
theorem valid_yes {B : Nat} {w : World} {v : Value} {xs : List Int} (h : Ri B w v xs) (hd : dimsOk xs = true) : Calls Try.prog 60 #[v] w (Quiet (.bool true) w) := hd ▸ valid_any h
theorem valid_no {B : Nat} {w : World} {v : Value} {xs : List Int} (h : Ri B w v xs) (hd : dimsOk xs = false) : Calls Try.prog 60 #[v] w (Quiet (.bool false) w) := hd ▸ valid_any h
theorem inside_yes {B : Nat} {w : World} {v u : Value} {xs ys : List Int} (h : Ri B w v xs) (h2 : Ri B w u ys) (hB : B ≤ w.heap.size) (hd : dimsOk xs = true) (hi : inside xs ys = true) :
    Calls Try.prog 42 #[v, u] w (GivesB (.bool true) w) := hi ▸ l05Inside_any h h2 hB (dimsOk_iff hd).2.1
theorem inside_no {B : Nat} {w : World} {v u : Value} {xs ys : List Int} (h : Ri B w v xs) (h2 : Ri B w u ys) (hB : B ≤ w.heap.size) (hd : dimsOk xs = true) (hi : inside xs ys = false) :
    Calls Try.prog 42 #[v, u] w (GivesB (.bool false) w) := hi ▸ l05Inside_any h h2 hB (dimsOk_iff hd).2.1
theorem contain_yes {B : Nat} {w : World} {v u : Value} {xs ys : List Int} (h : Ri B w v xs) (h2 : Ri B w u ys) (hB : B ≤ w.heap.size) (hi : inside xs ys = true) :
    Calls Try.prog 44 #[v, u] w (Quiet (.bool true) w) := hi ▸ contain_any h h2 hB
theorem contain_no {B : Nat} {w : World} {v u : Value} {xs ys : List Int} (h : Ri B w v xs) (h2 : Ri B w u ys) (hB : B ≤ w.heap.size) (hi : inside xs ys = false) :
    Calls Try.prog 44 #[v, u] w (Quiet (.bool false) w) := hi ▸ contain_any h h2 hB
end Go.Proofs.Ytmghbgnalkkppaa
