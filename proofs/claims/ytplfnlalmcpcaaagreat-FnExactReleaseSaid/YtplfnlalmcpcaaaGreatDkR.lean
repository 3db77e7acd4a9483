/- Contracts of the model's reading of a block of a disk. No statement is proved here. -/
import Derived.Test.YtplfnlalmcpcaaaGreatDkV
namespace Go.Proofs.YtplfnlalmcpcaaaGreat
open Go.RowKit
set_option linter.unusedVariables false
/-- Block k where the pending writes up to i have been looked at: the last one counts. -/
def rdI (ss : List ByteArray) (ps : List Pt) (k : Nat) : Nat → ByteArray
  | 0 => ss.getD k ByteArray.empty
  | i + 1 => if (ps.getD i (0, ByteArray.empty)).1 = (k : Int) then (ps.getD i (0, ByteArray.empty)).2 else rdI ss ps k i
def rdB (ss : List ByteArray) (ps : List Pt) (k : Nat) : ByteArray := rdI ss ps k ps.length
theorem rdI_succ {ss : List ByteArray} {ps : List Pt} {k i : Nat} (h : i < ps.length) : rdI ss ps k (i + 1) = if ps[i].1 = (k : Int) then ps[i].2 else rdI ss ps k i := by
  rw [rdI, List.getD_eq_getElem?_getD, List.getElem?_eq_getElem h]; rfl
theorem rdI_zero {ss : List ByteArray} {ps : List Pt} {k : Nat} (h : k < ss.length) : rdI ss ps k 0 = ss[k] := by
  rw [rdI, List.getD_eq_getElem?_getD, List.getElem?_eq_getElem h]; rfl
set_option maxHeartbeats 1000000 in
set_option maxRecDepth 100000 in
theorem l09Read_any {B g : Nat} {w : World} {v1 v2 : Value} {ss : List ByteArray} {ps : List Pt} {fz : Int} {off : Bool} {k : Nat} (hk : k < ss.length) (hd : DB w g v1 v2 fz off) (h1 : RiT B w v1 ss) (h2 : RiU B w v2 ps) :
    Calls Tryz.prog 148 #[.pointer (some ⟨g, 0, none⟩), .int .i64 (k : Int)] w (Quiet (.string (rdB ss ps k)) w) := by
  obtain ⟨A1, c1, rfl, hl1, hm1, hx1⟩ := h1
  obtain ⟨A2, c2, rfl, hl2, hm2, hx2⟩ := h2
  unfold maxLen at hm1 hm2
  have Hx1 := Lib.hid hx1; have Hx2 := Lib.hid hx2; clear hx1 hx2
  have q0 := hd.c0; have q1 := hd.c1
  clear hd
  have HT : Hid (rdB ss ps k = rdI ss ps k ps.length) := Lib.hid rfl
  generalize rdB ss ps k = T at *
  go_enter Tryz.func148, Tryz.ntmps148
  go_wp2
  go_loop [5] (fun i => ∃ j : Nat, j ≤ ps.length ∧ i = .int .i64 ((j : Int) - 1) ∧ T = rdI ss ps k j) (fun i => (intOf i + 1).toNat)
  case atStart => exact ⟨ps.length, Nat.le_refl _, rfl, HT.out⟩
  case round =>
    obtain ⟨j, hj, rfl, hT⟩ := hrel
    have HT2 := Lib.hid hT; clear hT
    cases j with
    | zero =>
      obtain ⟨b, o, rfl, hb, hc, -⟩ := Hx1.out k hk
      have HZ := Lib.hid (rdI_zero (ss := ss) (ps := ps) hk)
      generalize ss[k] = s at *
      rw [show ((0 : Nat) : Int) - 1 = -1 from rfl]
      go_wp2
      go_ret
      exact ⟨by rw [HT2.out, HZ.out]; rfl, rfl⟩
    | succ j =>
      rw [show ((j + 1 : Nat) : Int) - 1 = (j : Int) by omega]
      have hlt : j < ps.length := by omega
      obtain ⟨b, o, rfl, hb, hc1, hc2, -, -⟩ := Hx2.out j hlt
      have HS := Lib.hid (rdI_succ (ss := ss) (k := k) hlt)
      generalize ps[j].1 = z at *
      generalize ps[j].2 = s at *
      by_cases hz : z = (k : Int)
      · have Hf : Hid (T = s) := Lib.hid (by rw [HT2.out, HS.out, if_pos hz])
        have e1 : (z == (k : Int)) = true := by simpa using hz
        clear hz
        go_wp2
        go_ret
        exact ⟨by rw [Hf.out]; rfl, rfl⟩
      · have Hf : Hid (T = rdI ss ps k j) := Lib.hid (by rw [HT2.out, HS.out, if_neg hz])
        have e1 : (z == (k : Int)) = false := beq_eq_false_iff_ne.2 hz
        have e2 : ¬ z = (k : Int) := hz
        clear hz
        go_wp2
        go_round
        case rel => exact ⟨j, by omega, by first | rfl | go_num, Hf.out⟩
        case measure => simp [intOf]
def rdC (ss : List ByteArray) (ps : List Pt) (fz k : Int) : Int := if dskOk ss ps fz then (if inB k 0 ((ss.length : Int) - 1) then 0 else 2) else 1
def rdS (ss : List ByteArray) (ps : List Pt) (fz k : Int) : ByteArray := if dskOk ss ps fz then (if inB k 0 ((ss.length : Int) - 1) then rdB ss ps k.toNat else ⟨#[]⟩) else ⟨#[]⟩
end Go.Proofs.YtplfnlalmcpcaaaGreat
