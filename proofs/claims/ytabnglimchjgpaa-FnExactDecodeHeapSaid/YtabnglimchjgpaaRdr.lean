/- The model's reader: one byte, some bytes. No statement is proved here. -/
import Derived.Test.YtabnglimchjgpaaDgn
import Derived.Test.YtabnglimchjgpaaHeld
import Derived.Deep.Cut
namespace Go.Proofs.Ytabnglimchjgpaa
open Go.RowKit
set_option linter.unusedVariables false
/-- What a reader's block holds. -/
def RdA (w : World) (c : Nat) (s : ByteArray) (a : Nat) (bd : Bool) : Prop := w.heap[c]? = some (.cells #[.string s, .int .i64 (a : Int), .bool bd] 92 (0, 0))
def RdP (c : Nat) (v : Value) (s : ByteArray) (a : Nat) (bd : Bool) (w : World) (e : Ending) (w' : World) : Prop := e = .returned v ∧ RdA w' c s a bd ∧ (∀ k, k ≠ c → w'.heap[k]? = w.heap[k]?) ∧ w'.heap.size = w.heap.size ∧ Below c w w'
theorem RdA.q {w : World} {c a : Nat} {s : ByteArray} {bd : Bool} (h : RdA w c s a bd) : w.cell? ⟨c, 0, none⟩ = some (.string s) ∧ w.cell? ⟨c, 1, none⟩ = some (.int .i64 (a : Int)) ∧ w.cell? ⟨c, 2, none⟩ = some (.bool bd) ∧ (∀ j, w.frozen? ⟨c, j, none⟩ = false) :=
  ⟨by rw [cell_of_row _ _ _ _ _ _ h]; rfl, by rw [cell_of_row _ _ _ _ _ _ h]; rfl, by rw [cell_of_row _ _ _ _ _ _ h]; rfl, fun j => frozen_of_row _ _ _ _ _ h⟩
theorem RdA.setA {w : World} {c a a' : Nat} {s : ByteArray} {bd : Bool} (h : RdA w c s a bd) : RdA (w.setCell ⟨c, 1, none⟩ (.int .i64 (a' : Int))) c s a' bd := heap_setCell_same w c 1 _ _ (.int .i64 (a' : Int)) h
theorem RdA.setB {w : World} {c a : Nat} {s : ByteArray} {bd : Bool} (h : RdA w c s a bd) : RdA (w.setCell ⟨c, 2, none⟩ (.bool true)) c s a true := heap_setCell_same w c 2 _ _ (.bool true) h
theorem set_part (w : World) (c j : Nat) (u : Value) : (∀ k, k ≠ c → (w.setCell ⟨c, j, none⟩ u).heap[k]? = w.heap[k]?) ∧ (w.setCell ⟨c, j, none⟩ u).heap.size = w.heap.size ∧ Below c w (w.setCell ⟨c, j, none⟩ u) :=
  ⟨fun k hk => heap_setCell_other _ ⟨c, j, none⟩ k _ hk, by simp, (Below.refl c w).setCell (p := ⟨c, j, none⟩) (Nat.le_refl _) _⟩
set_option maxHeartbeats 2000000 in
set_option maxRecDepth 100000 in
theorem rdByte_no {w : World} {c a : Nat} {s : ByteArray} {bd : Bool} (hs : s.size ≤ 1048576) (ha : a ≤ s.size) (h : s.size ≤ a) (hc : RdA w c s a bd) :
    Calls Try.prog 71 #[.pointer (some ⟨c, 0, none⟩)] w (RdP c (.int .i64 0) s a true w) := by
  have Hc := Lib.hid hc
  obtain ⟨q0, q1, q2, fz⟩ := hc.q
  have f2 := fz 2
  clear fz hc
  have dk : decide ((a : Int) ≥ (s.size : Int)) = true := decide_eq_true (by omega)
  have Hd : Hid (RdA (w.drew.setCell ⟨c, 2, none⟩ (.bool true)) c s a true) := Lib.hid (RdA.setB (w := w.drew) Hc.out)
  have Hp := Lib.hid (set_part w.drew c 2 (.bool true))
  go_enter Try.func71, Try.ntmps71
  go_wp2
  go_region
  simp only [Exit.then]
  clear q0 q1 q2
  have f2' : w.drew.frozen? ⟨c, 2, none⟩ = false := f2
  have q2' : w.drew.cell? ⟨c, 2, none⟩ = some (.bool bd) := (RdA.q (w := w.drew) Hc.out).2.2.1
  go_wp2
  go_ret
  exact ⟨rfl, Hd.out, Hp.out.1, Hp.out.2.1, (Below.refl c w).drew.trans Hp.out.2.2⟩
set_option maxHeartbeats 2000000 in
set_option maxRecDepth 100000 in
theorem rdByte_ok {w : World} {c a : Nat} {s : ByteArray} {bd : Bool} (hs : s.size ≤ 1048576) (h : a < s.size) (hc : RdA w c s a bd) :
    Calls Try.prog 71 #[.pointer (some ⟨c, 0, none⟩)] w (RdP c (.int .i64 (s[a].toNat : Int)) s (a + 1) bd w) := by
  have Hc := Lib.hid hc
  obtain ⟨a1, ha1⟩ : ∃ a1, a1 = a + 1 := ⟨_, rfl⟩
  rw [← ha1]
  obtain ⟨q0, q1, q2, fz⟩ := hc.q
  have f1 := fz 1
  clear fz hc q2
  have dk : decide ((a : Int) ≥ (s.size : Int)) = false := decide_eq_false (by omega)
  have Hd : Hid (RdA (w.setCell ⟨c, 1, none⟩ (.int .i64 (a1 : Int))).drew c s a1 bd) := Lib.hid (RdA.setA (w := w) Hc.out)
  have Hp : Hid ((∀ k, k ≠ c → (w.setCell ⟨c, 1, none⟩ (.int .i64 (a1 : Int))).drew.heap[k]? = w.heap[k]?) ∧ (w.setCell ⟨c, 1, none⟩ (.int .i64 (a1 : Int))).drew.heap.size = w.heap.size ∧ Below c w (w.setCell ⟨c, 1, none⟩ (.int .i64 (a1 : Int))).drew) := Lib.hid ⟨(set_part w c 1 _).1, (set_part w c 1 _).2.1, (set_part w c 1 _).2.2.drew⟩
  go_enter Try.func71, Try.ntmps71
  go_wp2
  go_region
  simp only [Exit.then]
  clear q0 q1
  have f1' : w.drew.frozen? ⟨c, 1, none⟩ = false := f1
  have q1' : w.drew.cell? ⟨c, 1, none⟩ = some (.int .i64 (a : Int)) := (RdA.q (w := w.drew) Hc.out).2.1
  go_upto_region 5 with fail
  have ez : ((a : Int) + 1) = (a1 : Int) := by omega
  rw [ez]
  generalize (w.setCell ⟨c, 1, none⟩ (.int .i64 (a1 : Int))).drew = w1 at *
  clear q1' f1' f1
  obtain ⟨q0, q1, -, -⟩ := Hd.out.q
  have hi : (a1 : Int) - 1 = (a : Int) := by omega
  have hab : a1 ≤ 1048576 := by omega
  clear ha1 ez dk
  have hbt := byte_lt s[a]
  go_region
  go_wp2
  go_ret
  exact ⟨rfl, Hd.out, Hp.out.1, Hp.out.2.1, Hp.out.2.2.drew⟩
set_option maxHeartbeats 2000000 in
set_option maxRecDepth 100000 in
theorem rdTake_no {w : World} {c a n : Nat} {s : ByteArray} {bd : Bool} (hs : s.size ≤ 1048576) (hn : n ≤ 1048576) (ha : a ≤ s.size) (h : s.size < a + n) (hc : RdA w c s a bd) :
    Calls Try.prog 72 #[.pointer (some ⟨c, 0, none⟩), .int .i64 (n : Int)] w (RdP c (.string ⟨#[]⟩) s a true w) := by
  have Hc := Lib.hid hc
  obtain ⟨q0, q1, q2, fz⟩ := hc.q
  have f2 := fz 2
  clear fz hc
  have d1 : decide ((n : Int) < 0) = false := decide_eq_false (by omega)
  have d2 : decide ((n : Int) > (s.size : Int) - (a : Int)) = true := decide_eq_true (by omega)
  have Hd : Hid (RdA (w.setCell ⟨c, 2, none⟩ (.bool true)).drew c s a true) := Lib.hid (RdA.setB (w := w) Hc.out)
  have Hp : Hid ((∀ k, k ≠ c → (w.setCell ⟨c, 2, none⟩ (.bool true)).drew.heap[k]? = w.heap[k]?) ∧ (w.setCell ⟨c, 2, none⟩ (.bool true)).drew.heap.size = w.heap.size ∧ Below c w (w.setCell ⟨c, 2, none⟩ (.bool true)).drew) := Lib.hid ⟨(set_part w c 2 _).1, (set_part w c 2 _).2.1, (set_part w c 2 _).2.2.drew⟩
  go_enter Try.func72, Try.ntmps72
  go_wp2
  go_region
  simp only [Exit.then]
  clear q0 q1 q2
  have f2' : w.drew.frozen? ⟨c, 2, none⟩ = false := f2
  have q2' : w.drew.cell? ⟨c, 2, none⟩ = some (.bool bd) := (RdA.q (w := w.drew) Hc.out).2.2.1
  go_wp2
  go_ret
  exact ⟨rfl, Hd.out, Hp.out.1, Hp.out.2.1, Hp.out.2.2⟩
set_option maxHeartbeats 2000000 in
set_option maxRecDepth 100000 in
theorem rdTake_ok {w : World} {c a n : Nat} {s : ByteArray} {bd : Bool} (hs : s.size ≤ 1048576) (h : a + n ≤ s.size) (hc : RdA w c s a bd) :
    Calls Try.prog 72 #[.pointer (some ⟨c, 0, none⟩), .int .i64 (n : Int)] w (RdP c (.string (s.extract a (a + n))) s (a + n) bd w) := by
  have Hc := Lib.hid hc
  obtain ⟨a1, ha1⟩ : ∃ a1, a1 = a + n := ⟨_, rfl⟩
  rw [← ha1]
  obtain ⟨q0, q1, q2, fz⟩ := hc.q
  have f1 := fz 1
  clear fz hc q2
  have d1 : decide ((n : Int) < 0) = false := decide_eq_false (by omega)
  have d2 : decide ((n : Int) > (s.size : Int) - (a : Int)) = false := decide_eq_false (by omega)
  have Hd : Hid (RdA (w.setCell ⟨c, 1, none⟩ (.int .i64 (a1 : Int))).drew c s a1 bd) := Lib.hid (RdA.setA (w := w) Hc.out)
  have Hp : Hid ((∀ k, k ≠ c → (w.setCell ⟨c, 1, none⟩ (.int .i64 (a1 : Int))).drew.heap[k]? = w.heap[k]?) ∧ (w.setCell ⟨c, 1, none⟩ (.int .i64 (a1 : Int))).drew.heap.size = w.heap.size ∧ Below c w (w.setCell ⟨c, 1, none⟩ (.int .i64 (a1 : Int))).drew) := Lib.hid ⟨(set_part w c 1 _).1, (set_part w c 1 _).2.1, (set_part w c 1 _).2.2.drew⟩
  go_enter Try.func72, Try.ntmps72
  go_wp2
  go_region
  simp only [Exit.then]
  clear q0 q1
  have f1' : w.drew.frozen? ⟨c, 1, none⟩ = false := f1
  have q1' : w.drew.cell? ⟨c, 1, none⟩ = some (.int .i64 (a : Int)) := (RdA.q (w := w.drew) Hc.out).2.1
  go_upto_region 5 with fail
  have ez : ((a : Int) + (n : Int)) = (a1 : Int) := by omega
  rw [ez]
  generalize (w.setCell ⟨c, 1, none⟩ (.int .i64 (a1 : Int))).drew = w1 at *
  clear q1' f1' f1
  obtain ⟨q0, q1, -, -⟩ := Hd.out.q
  have hi : (a1 : Int) - (n : Int) = (a : Int) := by omega
  have hab : a1 ≤ s.size := by omega
  have haa : a ≤ a1 := by omega
  clear ha1 ez d1 d2 h
  go_region
  go_wp2
  go_ret
  exact ⟨rfl, Hd.out, Hp.out.1, Hp.out.2.1, Hp.out.2.2.drew⟩
end Go.Proofs.Ytabnglimchjgpaa
