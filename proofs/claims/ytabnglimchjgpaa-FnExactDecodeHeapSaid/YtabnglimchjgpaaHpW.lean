/- Which heaps of names are valid, by the program; names in slots, and slots of names: both sides. No statement is proved here. -/
import Derived.Test.YtabnglimchjgpaaHpV
namespace Go.Proofs.Ytabnglimchjgpaa
open Go.RowKit
set_option linter.unusedVariables false
def noS (s : ByteArray) : Bool := !(decide (s.size = 0) || nameS s)
set_option maxHeartbeats 1000000 in
theorem isNoSlot_any (s : ByteArray) (hs : s.size ≤ 1048576) (w : World) :
    Calls Try.prog 50 #[.string s] w (GivesB (.bool (noS s)) w) := by
  have HP : Hid (noS s = !(decide (s.size = 0) || nameS s)) := Lib.hid rfl
  generalize noS s = r at *
  have HC := Lib.hid (implIsName_any s hs w)
  by_cases hz : s.size = 0
  · have e1 := mt_isEmpty hz
    have Hf : Hid (r = false) := Lib.hid (by rw [HP.out]; simp [hz])
    clear hz
    go_enter Try.func50, Try.ntmps50
    go_wp2_with fail
    go_ret
    exact ⟨by rw [Hf.out]; rfl, Below.refl _ _⟩
  · have e1 := toList_ne s (by omega)
    have Hf : Hid (r = !nameS s) := Lib.hid (by rw [HP.out]; simp [hz])
    clear hz
    generalize nameS s = q at *
    go_enter Try.func50, Try.ntmps50
    go_wp2_with (go_at_call 57; refine HC.out.mono ?_; rintro e w' ⟨rfl, g⟩; have Hg := Lib.hid g; clear g)
    go_ret
    exact ⟨by rw [Hf.out]; rfl, Hg.out⟩
theorem hpAt_noS {ss : List ByteArray} {k : Nat} (h : k < ss.length) : hpAt ss k = !noS ss[k] := by unfold hpAt noS; rw [hpN_at h]; simp
set_option maxHeartbeats 2000000 in
set_option maxRecDepth 100000 in
theorem idxNoS_any {B : Nat} {w : World} {v : Value} {ss : List ByteArray} (h : RiT B w v ss) (hB : B ≤ w.heap.size) (hs : SmT ss) :
    Calls Try.prog 98 #[v, .func (.func 50) #[] #[]] w
      fun e w' => (∃ n : Int, e = .returned (.int .i64 n) ∧ -1 ≤ n ∧ n < 9223372036854775808 ∧ decide (0 ≤ n) = !allTo (hpAt ss) ss.length) ∧ Below w.heap.size w w' := by
  obtain ⟨A, cap, rfl, hl, hm, hx⟩ := h
  unfold maxLen at hm
  have Hx := Lib.hid hx; clear hx
  have Hs := Lib.hid hs.2; clear hs
  go_enter Try.func98, Try.ntmps98
  go_wp2_with fail
  go_loopw [8] (fun i wr => ∃ k : Nat, k ≤ ss.length ∧ i = .int .i64 (k : Int) ∧ Below w.heap.size w wr ∧ allTo (hpAt ss) k = true) (fun i _ => ss.length - (intOf i).toNat)
  case atStart => exact ⟨0, Nat.zero_le _, rfl, Below.refl _ _, allTo_zero _⟩
  case round =>
    obtain ⟨k, hk, rfl, hbel, hall⟩ := hrel
    have Hall := Lib.hid hall; have Hbel := Lib.hid hbel; clear hall
    by_cases hlt : k < ss.length
    · obtain ⟨b, o, rfl, hb, hc, -⟩ := Hx.out k hlt
      have g1 := (hbel.cell (p := ⟨b, o + k, none⟩) (show b < _ by omega)).trans hc
      have HS := Lib.hid (allTo_succ (hpAt ss) k)
      have HP := Lib.hid (hpAt_noS hlt)
      have Hbad : Hid (hpAt ss k = false → allTo (hpAt ss) ss.length = false) := Lib.hid (fun h => allTo_bad _ k _ hlt h)
      have HC := Lib.hid (isNoSlot_any ss[k] (Hs.out ss[k] (List.getElem_mem hlt)) wr)
      have hsz := hbel.size
      clear hc hbel
      generalize ss[k] = s at *
      cases hn : noS s
      · have Hall2 : Hid (allTo (hpAt ss) (k + 1) = true) := Lib.hid (by rw [HS.out, Hall.out, HP.out, hn]; rfl)
        rw [hn] at HC
        clear hn Hbad HP
        go_wp2_with (refine HC.out.mono ?_; rintro e w' ⟨rfl, g⟩; have Hg := Lib.hid (Hbel.out.trans (g.mono hsz)); clear g g1)
        go_roundw
        case rel => exact ⟨k + 1, by omega, by go_num, Hg.out, Hall2.out⟩
        case measure => simp [intOf]; omega
      · have Hf := Lib.hid (Hbad.out (by rw [HP.out, hn]; rfl))
        rw [hn] at HC
        clear hn Hbad HP
        go_wp2_with (refine HC.out.mono ?_; rintro e w' ⟨rfl, g⟩; have Hg := Lib.hid (Hbel.out.trans (g.mono hsz)); clear g g1)
        go_ret
        exact ⟨⟨(k : Int), rfl, by omega, by omega, by rw [Hf.out]; simp⟩, Hg.out⟩
    · obtain rfl : k = ss.length := by omega
      clear hbel
      go_wp2_with fail
      go_ret
      exact ⟨⟨-1, rfl, by omega, by omega, by rw [Hall.out]; rfl⟩, Hbel.out⟩
set_option maxHeartbeats 2000000 in
set_option maxRecDepth 100000 in
theorem hasNoS_any {B : Nat} {w : World} {v : Value} {ss : List ByteArray} (h : RiT B w v ss) (hB : B ≤ w.heap.size) (hs : SmT ss) :
    Calls Try.prog 49 #[v, .func (.func 50) #[] #[]] w (GivesB (.bool (!allTo (hpAt ss) ss.length)) w) := by
  have H := Lib.hid h
  obtain ⟨A, cap, rfl, -⟩ := h
  have HC := Lib.hid (idxNoS_any H.out hB hs)
  clear hs
  generalize (!allTo (hpAt ss) ss.length) = r at *
  go_enter Try.func49, Try.ntmps49
  go_wp2_with fail
  refine HC.out.mono ?_
  rintro e w1 ⟨⟨n, rfl, n1, n2, hn⟩, g⟩
  have Hb1 := Lib.hid g; have Hn := Lib.hid hn; clear g hn
  go_wp2_with fail
  go_ret
  exact ⟨by rw [← Hn.out]; rfl, Hb1.out⟩
set_option maxHeartbeats 2000000 in
set_option maxRecDepth 100000 in
theorem implValidHeap_any {B : Nat} {w : World} {v : Value} {ss : List ByteArray} (h : RiT B w v ss) (hB : B ≤ w.heap.size) (hs : SmT ss) :
    Calls Try.prog 17 #[.agg #[v]] w (GivesB (.bool (hpOk ss)) w) := by
  have H := Lib.hid h
  obtain ⟨A, cap, rfl, hl, hm, hx⟩ := h
  unfold maxLen at hm
  generalize hr : hpOk ss = r
  have Hr := Lib.hid hr; clear hr
  have Hx := Lib.hid hx; clear hx
  have Hs := Lib.hid hs; clear hs
  have HB0 : Hid (Below w.heap.size w (w.alloc (.cells #[.slice A ss.length cap] 27))) := Lib.hid ((Below.refl _ w).alloc (Nat.le_refl _) _)
  have q0 := row1 w (.slice A ss.length cap) 27
  by_cases hn : ss.length = 0
  · have Hf : Hid (r = true) := Lib.hid (by rw [← Hr.out]; obtain rfl := List.eq_nil_of_length_eq_zero hn; rfl)
    have HC := Lib.hid (hasNoS_any (H.out.at hB HB0.out) (Nat.le_refl _) Hs.out)
    have Hal : Hid ((!allTo (hpAt ss) ss.length) = false) := Lib.hid (by rw [hn]; rfl)
    rw [Hal.out] at HC
    have n0 : decide ((0 : Int) < (ss.length : Int)) = false := decide_eq_false (by omega)
    have n2 : decide ((ss.length : Int) ≤ 30) = true := decide_eq_true (by omega)
    have n3 : decide (0 < ss.length) = false := decide_eq_false (by omega)
    clear hn
    go_enter Try.func17, Try.ntmps17
    go_wp2_with (go_at_call 49; refine HC.out.mono ?_; rintro e w' ⟨rfl, g⟩; have Hg := Lib.hid (HB0.out.trans (g.mono HB0.out.size)); clear g q0)
    go_ret
    exact ⟨by rw [Hf.out]; rfl, Hg.out⟩
  obtain ⟨b, o, rfl, hb, hcl, -⟩ := Hx.out (ss.length - 1) (by omega)
  have hclw := (HB0.out.cell (p := ⟨b, o + (ss.length - 1), none⟩) (show b < _ from by omega)).trans hcl
  have n0 : decide ((0 : Int) < (ss.length : Int)) = true := decide_eq_true (by omega)
  have n3 : decide (0 < ss.length) = true := decide_eq_true (by omega)
  have n1 : ((ss.length : Int) - 1) = ((ss.length - 1 : Nat) : Int) := by omega
  have n2 : ss.length - 1 < ss.length := by omega
  have HE := Lib.hid (hpEnd_last hn)
  clear hcl
  generalize hls : ss[ss.length - 1] = ls at *
  by_cases h30 : ss.length ≤ 30
  rotate_left
  · have Hf : Hid (r = false) := Lib.hid (by rw [← Hr.out]; exact hpOk_long h30)
    have d1 : decide ((ss.length : Int) ≤ 30) = false := decide_eq_false (by omega)
    clear hls HE
    have e2 : ls.toList.isEmpty = true ∨ ls.toList.isEmpty = false := by cases ls.toList.isEmpty <;> simp
    rcases e2 with e2 | e2
    · go_enter Try.func17, Try.ntmps17
      go_wp2_with fail
      go_ret
      exact ⟨by rw [Hf.out]; rfl, HB0.out⟩
    · go_enter Try.func17, Try.ntmps17
      go_wp2_with fail
      go_ret
      exact ⟨by rw [Hf.out]; rfl, HB0.out⟩
  have d1 : decide ((ss.length : Int) ≤ 30) = true := decide_eq_true (by omega)
  by_cases hl0 : ls.size = 0
  · have Hf : Hid (r = false) := Lib.hid (by rw [← Hr.out]; exact hpOk_end (by rw [HE.out]; simp [hl0]))
    have e1 := mt_isEmpty hl0
    clear HE hls hl0
    go_enter Try.func17, Try.ntmps17
    go_wp2_with fail
    go_ret
    exact ⟨by rw [Hf.out]; rfl, HB0.out⟩
  have Hend : Hid (hpEnd ss = true) := Lib.hid (by rw [HE.out]; simp [hl0])
  have Hf : Hid (r = allTo (hpAt ss) ss.length) := Lib.hid (by rw [← Hr.out]; simp [hpOk, h30, Hend.out])
  have e1 := toList_ne ls (by omega)
  have HC := Lib.hid (hasNoS_any (H.out.at hB HB0.out) (Nat.le_refl _) Hs.out)
  clear HE hls
  generalize allTo (hpAt ss) ss.length = al at *
  go_enter Try.func17, Try.ntmps17
  go_wp2_with (go_at_call 49; refine HC.out.mono ?_; rintro e w' ⟨rfl, g⟩; have Hg := Lib.hid (HB0.out.trans (g.mono HB0.out.size)); clear g q0)
  go_ret
  exact ⟨by rw [Hf.out]; simp, Hg.out⟩
end Go.Proofs.Ytabnglimchjgpaa
