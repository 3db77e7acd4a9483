/- Contracts of the model's reading of a block of a disk. No statement is proved here. -/
import Derived.Test.YtpjkeikaonkohaaDkV
namespace Go.Proofs.Ytpjkeikaonkohaa
open Go.RowKit
set_option linter.unusedVariables false
/-- Block k where the pending writes up to i have been looked at: the last one counts. -/
def rdI (ss : List ByteArray) (ps : List Pt) (k : Nat) : Nat → ByteArray
  | 0 => ss.getD k ByteArray.empty
  | i + 1 => if (ps.getD i (0, ByteArray.empty)).1 = (k : Int) then (ps.getD i (0, ByteArray.empty)).2 else rdI ss ps k i
def rdB (ss : List ByteArray) (ps : List Pt) (k : Nat) : ByteArray := rdI ss ps k ps.length
theorem rdI_succ {ss : List ByteArray} {ps : List Pt} {k i : Nat} (h : i < ps.length) : rdI ss ps k (i + 1) = if ps[i].1 = (k : Int) then ps[i].2 else rdI ss ps k i := by
  rw [rdI, List.getD_eq_getElem?_getD, List.getElem?_eq_getElem h]; rfl
theorem rdI_zero {ss : List ByteArray} {ps : List Pt} {k : Nat} (h : k < ss.length) : rdI ss ps k 0 = ss[k] := by
  rw [rdI, List.getD_eq_getElem?_getD, List.getElem?_eq_getElem h]; rfl
set_option maxHeartbeats 1000000 in
set_option maxRecDepth 100000 in
theorem l09Read_any {B g : Nat} {w : World} {v1 v2 : Value} {ss : List ByteArray} {ps : List Pt} {fz : Int} {off : Bool} {k : Nat} (hk : k < ss.length) (hd : DB w g v1 v2 fz off) (h1 : RiT B w v1 ss) (h2 : RiU B w v2 ps) :
    Calls Try.prog 81 #[.pointer (some ⟨g, 0, none⟩), .int .i64 (k : Int)] w (Quiet (.string (rdB ss ps k)) w) := by
  obtain ⟨A1, c1, rfl, hl1, hm1, hx1⟩ := h1
  obtain ⟨A2, c2, rfl, hl2, hm2, hx2⟩ := h2
  unfold maxLen at hm1 hm2
  have Hx1 := Lib.hid hx1; have Hx2 := Lib.hid hx2; clear hx1 hx2
  have q0 := hd.c0; have q1 := hd.c1
  clear hd
  have HT : Hid (rdB ss ps k = rdI ss ps k ps.length) := Lib.hid rfl
  generalize rdB ss ps k = T at *
  go_enter Try.func81, Try.ntmps81
  go_wp2
  go_loop [5] (fun i => ∃ j : Nat, j ≤ ps.length ∧ i = .int .i64 ((j : Int) - 1) ∧ T = rdI ss ps k j) (fun i => (intOf i + 1).toNat)
  case atStart => exact ⟨ps.length, Nat.le_refl _, rfl, HT.out⟩
  case round =>
    obtain ⟨j, hj, rfl, hT⟩ := hrel
    have HT2 := Lib.hid hT; clear hT
    cases j with
    | zero =>
      obtain ⟨b, o, rfl, hb, hc, -⟩ := Hx1.out k hk
      have HZ := Lib.hid (rdI_zero (ss := ss) (ps := ps) hk)
      generalize ss[k] = s at *
      rw [show ((0 : Nat) : Int) - 1 = -1 from rfl]
      go_wp2
      go_ret
      exact ⟨by rw [HT2.out, HZ.out]; rfl, rfl⟩
    | succ j =>
      rw [show ((j + 1 : Nat) : Int) - 1 = (j : Int) by omega]
      have hlt : j < ps.length := by omega
      obtain ⟨b, o, rfl, hb, hc1, hc2, -, -⟩ := Hx2.out j hlt
      have HS := Lib.hid (rdI_succ (ss := ss) (k := k) hlt)
      generalize ps[j].1 = z at *
      generalize ps[j].2 = s at *
      by_cases hz : z = (k : Int)
      · have Hf : Hid (T = s) := Lib.hid (by rw [HT2.out, HS.out, if_pos hz])
        have e1 : (z == (k : Int)) = true := by simpa using hz
        clear hz
        go_wp2
        go_ret
        exact ⟨by rw [Hf.out]; rfl, rfl⟩
      · have Hf : Hid (T = rdI ss ps k j) := Lib.hid (by rw [HT2.out, HS.out, if_neg hz])
        have e1 : (z == (k : Int)) = false := beq_eq_false_iff_ne.2 hz
        have e2 : ¬ z = (k : Int) := hz
        clear hz
        go_wp2
        go_round
        case rel => exact ⟨j, by omega, by first | rfl | go_num, Hf.out⟩
        case measure => simp [intOf]
def rdC (ss : List ByteArray) (ps : List Pt) (fz k : Int) : Int := if dskOk ss ps fz then (if inB k 0 ((ss.length : Int) - 1) then 0 else 2) else 1
def rdS (ss : List ByteArray) (ps : List Pt) (fz k : Int) : ByteArray := if dskOk ss ps fz then (if inB k 0 ((ss.length : Int) - 1) then rdB ss ps k.toNat else ⟨#[]⟩) else ⟨#[]⟩
set_option maxHeartbeats 1000000 in
theorem specReadBlock_any {B : Nat} {w : World} {v1 v2 : Value} {ss : List ByteArray} {ps : List Pt} {fz k : Int} {off : Bool} (h1 : RiT B w v1 ss) (h2 : RiU B w v2 ps) (hk : (Lit.int .i64 k).wf = true) (hB : B ≤ w.heap.size) :
    Calls Try.prog 32 #[.agg #[v1, v2, .int .i64 fz, .bool off], .int .i64 k] w (GivesB (.tuple #[.string (rdS ss ps fz k), .int .i64 (rdC ss ps fz k)]) w) := by
  have H1 := Lib.hid h1; obtain ⟨A1, c1, rfl, hl1, hm1, -⟩ := h1
  have H2 := Lib.hid h2; obtain ⟨A2, c2, rfl, -, -, -⟩ := h2
  unfold maxLen at hm1
  have Hb0 : Hid (Below w.heap.size w (w.alloc (.cells #[.slice A1 ss.length c1, .slice A2 ps.length c2, .int .i64 fz, .bool off] 30))) := Lib.hid ((Below.refl _ w).alloc (Nat.le_refl _) _)
  have HD : Hid (DB (w.alloc (.cells #[.slice A1 ss.length c1, .slice A2 ps.length c2, .int .i64 fz, .bool off] 30)) w.heap.size (.slice A1 ss.length c1) (.slice A2 ps.length c2) fz off) := Lib.hid (heap_alloc_new w _)
  have HC : Hid (rdC ss ps fz k = if dskOk ss ps fz then (if inB k 0 ((ss.length : Int) - 1) then 0 else 2) else 1) := Lib.hid rfl
  have HS : Hid (rdS ss ps fz k = if dskOk ss ps fz then (if inB k 0 ((ss.length : Int) - 1) then rdB ss ps k.toNat else ⟨#[]⟩) else ⟨#[]⟩) := Lib.hid rfl
  generalize rdC ss ps fz k = C at *
  generalize rdS ss ps fz k = S at *
  cases hr : dskOk ss ps fz
  · have Hr := Lib.hid hr; clear hr
    have Hf : Hid (C = 1 ∧ S = ⟨#[]⟩) := Lib.hid (by rw [HC.out, HS.out, Hr.out]; exact ⟨rfl, rfl⟩)
    go_enter Try.func32, Try.ntmps32
    go_wp2_with fail
    refine (l09Ok_any Hr.out HD.out (H1.out.at hB Hb0.out) (H2.out.at hB Hb0.out)).mono ?_
    rintro e w1 ⟨rfl, rfl⟩
    go_wp2_with fail
    go_ret2
    exact ⟨by rw [Hf.out.1, Hf.out.2]; rfl, Hb0.out⟩
  have Hr := Lib.hid hr
  have hss : 16 ≤ ss.length := (dskOk_iff.1 hr).1
  clear hr
  cases hi : inB k 0 ((ss.length : Int) - 1)
  · have Hi := Lib.hid hi; clear hi
    have Hf : Hid (C = 2 ∧ S = ⟨#[]⟩) := Lib.hid (by rw [HC.out, HS.out, Hr.out, Hi.out]; exact ⟨rfl, rfl⟩)
    go_enter Try.func32, Try.ntmps32
    go_wp2_with fail
    refine (l09Ok_any Hr.out HD.out (H1.out.at hB Hb0.out) (H2.out.at hB Hb0.out)).mono ?_
    rintro e w1 ⟨rfl, rfl⟩
    go_wp2_with fail
    refine (l00In_no _ _ _ _ Hi.out).mono ?_
    rintro e w1 ⟨rfl, rfl⟩
    go_wp2_with fail
    go_ret2
    exact ⟨by rw [Hf.out.1, Hf.out.2]; rfl, Hb0.out⟩
  have Hi := Lib.hid hi
  have hik := inB_iff.1 hi
  clear hi
  obtain ⟨n, rfl⟩ := Int.eq_ofNat_of_zero_le hik.1
  have hn : n < ss.length := by omega
  have Hf : Hid (C = 0 ∧ S = rdB ss ps n) := Lib.hid (by rw [HC.out, HS.out, Hr.out, Hi.out]; exact ⟨rfl, rfl⟩)
  go_enter Try.func32, Try.ntmps32
  go_wp2_with fail
  refine (l09Ok_any Hr.out HD.out (H1.out.at hB Hb0.out) (H2.out.at hB Hb0.out)).mono ?_
  rintro e w1 ⟨rfl, rfl⟩
  go_wp2_with fail
  refine (l00In_yes _ _ _ _ Hi.out).mono ?_
  rintro e w1 ⟨rfl, rfl⟩
  go_wp2_with fail
  refine (l09Read_any hn HD.out (H1.out.at hB Hb0.out) (H2.out.at hB Hb0.out)).mono ?_
  rintro e w1 ⟨rfl, rfl⟩
  go_wp2_with fail
  go_ret2
  exact ⟨by rw [Hf.out.1, Hf.out.2]; rfl, Hb0.out⟩
end Go.Proofs.Ytpjkeikaonkohaa
