/- Contract of the model's comparison of disks. No statement is proved here. -/
import Derived.Test.YtkoenlkoalbhlaaDkV
import Derived.Laws.StructEq
namespace Go.Proofs.Ytkoenlkoalbhlaa
open Go.RowKit
set_option linter.unusedVariables false
def dskSame (ss : List ByteArray) (ps : List Pt) (fz : Int) (off : Bool) (ss' : List ByteArray) (ps' : List Pt) (fz' : Int) (off' : Bool) : Bool := decide (ss = ss') && (decide (ps = ps') && (decide (fz = fz') && decide (off = off')))
theorem same_ss {α : Type} [DecidableEq α] {xs ys : List α} (hn : xs.length = ys.length) (h : ∀ j (h1 : j < xs.length) (h2 : j < ys.length), xs[j] = ys[j]) : xs = ys := List.ext_getElem hn fun i h1 h2 => h i h1 h2
theorem ne_at {α : Type} {xs ys : List α} {k : Nat} (h1 : k < xs.length) (h2 : k < ys.length) (h : xs[k] ≠ ys[k]) : xs ≠ ys := fun e => by subst e; exact h rfl
theorem toList_loop_eq (t : ByteArray) (i : Nat) (r : List UInt8) : ByteArray.toList.loop t i r = r.reverse ++ t.data.toList.drop i := by
  have hz : t.data.toList.length = t.size := by simp
  induction i, r using ByteArray.toList.loop.induct (bs := t) with
  | case1 i r h ih =>
    unfold ByteArray.toList.loop
    rw [if_pos h, ih, List.reverse_cons, List.append_assoc, List.drop_eq_getElem_cons (i := i) (by omega)]
    congr 1
    have h2 : i < t.data.size := h
    have e : t.get! i = t.data.toList[i]'(by omega) := by
      show t.data[i]! = t.data[i]
      exact getElem!_pos t.data i h2
    rw [e]; rfl
  | case2 i r h =>
    unfold ByteArray.toList.loop
    rw [if_neg h, List.drop_eq_nil_of_le (by omega), List.append_nil]
theorem toList_eq (t : ByteArray) : t.toList = t.data.toList := by
  show ByteArray.toList.loop t 0 [] = _
  rw [toList_loop_eq]; simp
theorem bytes_ne {a b : ByteArray} (h : a ≠ b) : (a.toList == b.toList) = false := by
  rw [Bool.eq_false_iff]
  intro e
  have e := eq_of_beq e
  apply h
  apply ByteArray.ext
  apply Array.toList_inj.1
  rw [toList_eq, toList_eq] at e
  exact e
set_option maxHeartbeats 4000000 in
set_option maxRecDepth 100000 in
theorem specSameDisk_any {B : Nat} {w : World} {v1 v2 u1 u2 : Value} {ss ss' : List ByteArray} {ps ps' : List Pt} {fz fz' : Int} {off off' : Bool} (h1 : RiT B w v1 ss) (h2 : RiU B w v2 ps) (g1 : RiT B w u1 ss') (g2 : RiU B w u2 ps') (hB : B ≤ w.heap.size) :
    Calls Try.prog 115 #[.agg #[v1, v2, .int .i64 fz, .bool off], .agg #[u1, u2, .int .i64 fz', .bool off']] w (GivesB (.bool (dskSame ss ps fz off ss' ps' fz' off')) w) := by
  obtain ⟨A1, c1, rfl, hl1, hm1, hx1⟩ := h1
  obtain ⟨A2, c2, rfl, hl2, hm2, hx2⟩ := h2
  obtain ⟨D1, d1, rfl, -, hm3, hy1⟩ := g1
  obtain ⟨D2, d2, rfl, -, hm4, hy2⟩ := g2
  unfold maxLen at hm1 hm2 hm3 hm4
  have Hx1 := Lib.hid hx1; have Hx2 := Lib.hid hx2; have Hy1 := Lib.hid hy1; have Hy2 := Lib.hid hy2; clear hx1 hx2 hy1 hy2
  have Hb0 : Hid (Below w.heap.size w ((w.alloc (.cells #[.slice A1 ss.length c1, .slice A2 ps.length c2, .int .i64 fz, .bool off] 30)).alloc (.cells #[.slice D1 ss'.length d1, .slice D2 ps'.length d2, .int .i64 fz', .bool off'] 30))) := Lib.hid (((Below.refl _ w).alloc (Nat.le_refl _) _).alloc (by simp) _)
  have R0 : Hid (DB ((w.alloc (.cells #[.slice A1 ss.length c1, .slice A2 ps.length c2, .int .i64 fz, .bool off] 30)).alloc (.cells #[.slice D1 ss'.length d1, .slice D2 ps'.length d2, .int .i64 fz', .bool off'] 30)) w.heap.size (.slice A1 ss.length c1) (.slice A2 ps.length c2) fz off) := Lib.hid (heap_alloc2_old w _ _)
  have S0 : Hid (DB ((w.alloc (.cells #[.slice A1 ss.length c1, .slice A2 ps.length c2, .int .i64 fz, .bool off] 30)).alloc (.cells #[.slice D1 ss'.length d1, .slice D2 ps'.length d2, .int .i64 fz', .bool off'] 30)) (w.heap.size + 1) (.slice D1 ss'.length d1) (.slice D2 ps'.length d2) fz' off') := Lib.hid (heap_alloc2_new w _ _)
  generalize hr : dskSame ss ps fz off ss' ps' fz' off' = r
  have Hr := Lib.hid hr; clear hr
  by_cases e1 : ss.length = ss'.length
  rotate_left
  · have Hf : Hid (r = false) := Lib.hid (by rw [← Hr.out, dskSame, decide_eq_false (fun e => e1 (by rw [e]))]; rfl)
    have n1 : ((ss.length : Int) == (ss'.length : Int)) = false := beq_eq_false_iff_ne.2 (by omega)
    have n2 : ¬ (ss.length : Int) = (ss'.length : Int) := by omega
    clear e1
    go_enter Try.func115, Try.ntmps115
    go_wp2_with fail
    go_ret
    exact ⟨by rw [Hf.out]; rfl, Hb0.out⟩
  have n1 : ((ss.length : Int) == (ss'.length : Int)) = true := by simp; omega
  have n2 : (ss.length : Int) = (ss'.length : Int) := by omega
  by_cases e2 : ps.length = ps'.length
  rotate_left
  · have Hf : Hid (r = false) := Lib.hid (by rw [← Hr.out, dskSame, decide_eq_false (p := ps = ps') (fun e => e2 (by rw [e]))]; simp)
    have m1 : ((ps.length : Int) == (ps'.length : Int)) = false := beq_eq_false_iff_ne.2 (by omega)
    have m2 : ¬ (ps.length : Int) = (ps'.length : Int) := by omega
    clear e1 e2
    go_enter Try.func115, Try.ntmps115
    go_wp2_with fail
    go_ret
    exact ⟨by rw [Hf.out]; rfl, Hb0.out⟩
  have m1 : ((ps.length : Int) == (ps'.length : Int)) = true := by simp; omega
  have m2 : (ps.length : Int) = (ps'.length : Int) := by omega
  by_cases e3 : fz = fz'
  rotate_left
  · have Hf : Hid (r = false) := Lib.hid (by rw [← Hr.out, dskSame, decide_eq_false e3]; simp)
    have k1 : (fz == fz') = false := beq_eq_false_iff_ne.2 e3
    clear e1 e2
    go_enter Try.func115, Try.ntmps115
    go_wp2_with fail
    go_ret
    exact ⟨by rw [Hf.out]; rfl, Hb0.out⟩
  subst e3
  by_cases e4 : off = off'
  rotate_left
  · have Hf : Hid (r = false) := Lib.hid (by rw [← Hr.out, dskSame, decide_eq_false e4]; simp)
    have k1 : (off == off') = false := by simpa using e4
    clear e1 e2
    go_enter Try.func115, Try.ntmps115
    go_wp2_with fail
    go_ret
    exact ⟨by rw [Hf.out]; rfl, Hb0.out⟩
  subst e4
  have E1 := Lib.hid e1; have E2 := Lib.hid e2; clear e1 e2
  go_enter Try.func115, Try.ntmps115
  go_wp2_with fail
  generalize ((w.alloc (.cells #[.slice A1 ss.length c1, .slice A2 ps.length c2, .int .i64 fz, .bool off] 30)).alloc (.cells #[.slice D1 ss'.length d1, .slice D2 ps'.length d2, .int .i64 fz, .bool off] 30)) = W0 at *
  clear n1 n2 m1 m2
  go_loopw [5] (fun i wr => ∃ k : Nat, k ≤ ss.length ∧ i = .int .i64 (k : Int) ∧ Below W0.heap.size W0 wr ∧ ∀ j (h1 : j < ss.length) (h2 : j < ss'.length), j < k → ss[j] = ss'[j]) (fun i _ => ss.length - (intOf i).toNat)
  case atStart => exact ⟨0, Nat.zero_le _, rfl, Below.refl _ _, fun j _ _ h => absurd h (by omega)⟩
  case round =>
    obtain ⟨k, hk, rfl, hbel, hall⟩ := hrel
    have Hall := Lib.hid hall; have Hbel := Lib.hid hbel; clear hall
    have HR := Lib.hid (R0.out.keep hbel); have HS := Lib.hid (S0.out.keep hbel)
    have p1 := HR.out.c0
    have p2 := HS.out.c0
    have HBw : Hid (Below w.heap.size w wr) := Lib.hid (Hb0.out.trans (hbel.mono Hb0.out.size))
    by_cases hlt : k < ss.length
    · have hlt2 : k < ss'.length := by have := E1.out; omega
      obtain ⟨b1, o1, rfl, hb1, hc1, -⟩ := Hx1.out k hlt
      obtain ⟨b2, o2, rfl, hb2, hc2, -⟩ := Hy1.out k hlt2
      have g1 : wr.cell? ⟨b1, o1 + k, none⟩ = some (.string ss[k]) := (HBw.out.cell (p := ⟨b1, o1 + k, none⟩) (show b1 < _ by omega)).trans hc1
      have g2 : wr.cell? ⟨b2, o2 + k, none⟩ = some (.string ss'[k]) := (HBw.out.cell (p := ⟨b2, o2 + k, none⟩) (show b2 < _ by omega)).trans hc2
      have Hne : Hid (ss[k] ≠ ss'[k] → r = false) := Lib.hid (fun h => by rw [← Hr.out, dskSame, decide_eq_false (ne_at hlt hlt2 h)]; rfl)
      have Hyes : Hid (ss[k] = ss'[k] → ∀ j (h1 : j < ss.length) (h2 : j < ss'.length), j < k + 1 → ss[j] = ss'[j]) := Lib.hid (fun h j h1 h2 hj => by
        rcases Nat.lt_or_ge j k with h3 | h3
        · exact Hall.out j h1 h2 h3
        · obtain rfl : j = k := by omega
          exact h)
      clear hc1 hc2 hbel
      generalize ss[k] = s at *
      generalize ss'[k] = t at *
      by_cases hst : s = t
      · have Hy := Lib.hid (Hyes.out hst)
        subst hst
        go_wp2
        go_quiet (fail)
        go_wp2
        go_roundw
        case rel => exact ⟨k + 1, by omega, by go_num, below_draws Hbel.out _, Hy.out⟩
        case measure => simp [intOf]; omega
      · have Hf := Lib.hid (Hne.out hst)
        have x1 := bytes_ne hst
        clear hst Hne Hyes
        go_wp2
        go_quiet (fail)
        go_wp2
        go_ret
        exact ⟨by rw [Hf.out]; rfl, below_draws HBw.out _⟩
    · obtain rfl : k = ss.length := by omega
      clear p1 p2
      have p3 := HR.out.c0
      have p4 := HR.out.c1
      clear hbel
      go_wp2
      clear p3 p4
      have Hss : Hid (ss = ss') := Lib.hid (same_ss E1.out fun j h1 h2 => Hall.out j h1 h2 h1)
      go_loopw [6] (fun i wr => ∃ j : Nat, j ≤ ps.length ∧ i = .int .i64 (j : Int) ∧ Below W0.heap.size W0 wr ∧ ∀ q (h1 : q < ps.length) (h2 : q < ps'.length), q < j → ps[q] = ps'[q]) (fun i _ => ps.length - (intOf i).toNat)
      case atStart => exact ⟨0, Nat.zero_le _, rfl, Hbel.out, fun j _ _ h => absurd h (by omega)⟩
      case round =>
        obtain ⟨j, hj, rfl, hbe, hal⟩ := hrel
        have Hal := Lib.hid hal; have Hbe := Lib.hid hbe; clear hal
        have HR2 := Lib.hid (R0.out.keep hbe); have HS2 := Lib.hid (S0.out.keep hbe)
        have p1 := HR2.out.c1
        have p2 := HS2.out.c1
        have HBw2 : Hid (Below w.heap.size w wr) := Lib.hid (Hb0.out.trans (hbe.mono Hb0.out.size))
        by_cases hlj : j < ps.length
        · have hlj2 : j < ps'.length := by have := E2.out; omega
          obtain ⟨b1, o1, rfl, hb1, hc1, hd1, -⟩ := Hx2.out j hlj
          obtain ⟨b2, o2, rfl, hb2, hc2, hd2, -⟩ := Hy2.out j hlj2
          have g1 : wr.cell? ⟨b1, o1 + j * 2, none⟩ = some (.int .i64 ps[j].1) := (HBw2.out.cell (p := ⟨b1, o1 + j * 2, none⟩) (show b1 < _ by omega)).trans hc1
          have g2 : wr.cell? ⟨b2, o2 + j * 2, none⟩ = some (.int .i64 ps'[j].1) := (HBw2.out.cell (p := ⟨b2, o2 + j * 2, none⟩) (show b2 < _ by omega)).trans hc2
          have g3 : wr.cell? ⟨b1, o1 + j * 2 + 1, none⟩ = some (.string ps[j].2) := (HBw2.out.cell (p := ⟨b1, o1 + j * 2 + 1, none⟩) (show b1 < _ by omega)).trans hd1
          have g4 : wr.cell? ⟨b2, o2 + j * 2 + 1, none⟩ = some (.string ps'[j].2) := (HBw2.out.cell (p := ⟨b2, o2 + j * 2 + 1, none⟩) (show b2 < _ by omega)).trans hd2
          have Hne : Hid (ps[j] ≠ ps'[j] → r = false) := Lib.hid (fun h => by rw [← Hr.out, dskSame, decide_eq_false (p := ps = ps') (ne_at hlj hlj2 h)]; simp)
          have Hyes : Hid (ps[j] = ps'[j] → ∀ q (h1 : q < ps.length) (h2 : q < ps'.length), q < j + 1 → ps[q] = ps'[q]) := Lib.hid (fun h q h1 h2 hq => by
            rcases Nat.lt_or_ge q j with h3 | h3
            · exact Hal.out q h1 h2 h3
            · obtain rfl : q = j := by omega
              exact h)
          clear hc1 hc2 hd1 hd2 hbe
          generalize ps[j] = pp at *
          generalize ps'[j] = qq at *
          obtain ⟨za, sa⟩ := pp
          obtain ⟨zb, sb⟩ := qq
          dsimp only at g1 g2 g3 g4
          by_cases hz : za = zb
          · subst hz
            by_cases hst : sa = sb
            · subst hst
              have Hy := Lib.hid (Hyes.out rfl)
              clear Hne Hyes
              go_wp2
              go_quiet (fail)
              go_wp2
              go_roundw
              case rel => exact ⟨j + 1, by omega, by go_num, below_draws Hbe.out _, Hy.out⟩
              case measure => simp [intOf]; omega
            · have Hf := Lib.hid (Hne.out (fun e => hst (congrArg Prod.snd e)))
              have x1 := bytes_ne hst
              clear hst Hne Hyes
              go_wp2
              go_quiet (fail)
              go_wp2
              go_ret
              exact ⟨by rw [Hf.out]; rfl, below_draws HBw2.out _⟩
          · have Hf := Lib.hid (Hne.out (fun e => hz (congrArg Prod.fst e)))
            have x1 : (za == zb) = false := beq_eq_false_iff_ne.2 hz
            clear hz Hne Hyes
            go_wp2
            go_quiet (fail)
            go_wp2
            go_ret
            exact ⟨by rw [Hf.out]; rfl, below_draws HBw2.out _⟩
        · obtain rfl : j = ps.length := by omega
          have Hf : Hid (r = true) := Lib.hid (by
            rw [← Hr.out, dskSame, decide_eq_true Hss.out, decide_eq_true (same_ss E2.out fun q h1 h2 => Hal.out q h1 h2 h1)]; simp)
          clear hbe
          go_wp2
          go_ret
          exact ⟨by rw [Hf.out]; rfl, HBw2.out⟩
end Go.Proofs.Ytkoenlkoalbhlaa
