/- The bit of a block in an allocation page; runs of data blocks. No statement is proved here. -/
import Derived.Test.YtlickjmdlooapaaSpO
import Derived.Test.YtlickjmdlooapaaDimC
namespace Go.Proofs.Ytlickjmdlooapaa
open Go.RowKit
set_option linter.unusedVariables false
def aB (s : ByteArray) (n : Nat) : Bool := bits .and .u8 (((s.data.toList.getD (4 + n / 8) 0).toNat : Int) / 2 ^ (n % 8)) 1 == 1
theorem getD_byte (s : ByteArray) (i : Nat) (h : i < s.size) : s.data.toList.getD i 0 = s[i] := by
  rw [List.getD_eq_getElem?_getD, List.getElem?_eq_getElem (by simpa using h)]
  simp; rfl
/-- All these blocks are data blocks. -/
def dtB (b l at_ n : Int) : Bool := inB n 1 256 && (inB at_ (3 + l) (b - 1) && decide (at_ + n ≤ b))
theorem dtB_iff {b l at_ n : Int} (hb : b ≤ 256) (hl : 8 ≤ l) : dtB b l at_ n = true ↔ 1 ≤ n ∧ 3 + l ≤ at_ ∧ at_ ≤ b - n := by
  simp only [dtB, Bool.and_eq_true, inB_iff, decide_eq_true_eq]
  omega
theorem dtB_eq {b l at_ n : Int} (hb : b ≤ 256) (hl : 8 ≤ l) : dtB b l at_ n = (decide (1 ≤ n) && (decide (3 + l ≤ at_) && decide (at_ ≤ b - n))) := by
  rw [Bool.eq_iff_iff, dtB_iff hb hl]
  simp only [Bool.and_eq_true, decide_eq_true_eq]
set_option maxHeartbeats 1000000 in
set_option maxRecDepth 100000 in
theorem l13Bit_any (s : ByteArray) (n : Nat) (hs : s.size = 64) (hn : n < 256) (w : World) :
    Calls Try.prog 92 #[.string s, .int .i64 (n : Int)] w (Quiet (.bool (aB s n)) w) := by
  have h1 : 4 + n / 8 < s.size := by omega
  have HV : Hid (aB s n = (bits .and .u8 ((s[4 + n / 8].toNat : Int) / 2 ^ (n % 8)) 1 == 1)) := Lib.hid (by unfold aB; rw [getD_byte s _ h1])
  generalize aB s n = r at *
  go_enter Try.func92, Try.ntmps92
  go_wp2
  go_ret
  exact ⟨by rw [HV.out]; rfl, rfl⟩
set_option maxHeartbeats 1000000 in
set_option maxRecDepth 100000 in
theorem has_any {w : World} {g n : Nat} {s : ByteArray} (hs : s.size = 64) (hn : n < 256) (hg : ByA w g s) :
    Calls Try.prog 171 #[.slice (some ⟨g, 4, none⟩) 32 32, .int .i64 (n : Int)] w (Quiet (.bool (aB s n)) w) := by
  have h1 : n / 8 < 32 := by omega
  have q := hg (4 + n / 8) (by omega)
  have HV : Hid (aB s n = (bits .and .u8 (((s.data.toList.getD (4 + n / 8) 0).toNat : Int) / 2 ^ (n % 8)) 1 == 1)) := Lib.hid rfl
  generalize aB s n = r at *
  have hz : (s.data.toList.getD (4 + n / 8) 0).toNat < 256 := UInt8.toNat_lt _
  generalize (s.data.toList.getD (4 + n / 8) 0).toNat = x at *
  clear hg
  go_enter Try.func171, Try.ntmps171
  go_wp2
  go_ret
  exact ⟨by rw [HV.out]; rfl, rfl⟩
set_option maxHeartbeats 1000000 in
set_option maxRecDepth 100000 in
theorem hasRun_any {b l q t : Int} (at_ n : Int) (w : World) (hs : supOk b l q t = true) (hn : InI n) :
    Calls Try.prog 102 #[.agg #[.int .i64 b, .int .i64 l, .int .i64 q, .int .i64 t], .int .i64 at_, .int .i64 n] w (GivesB (.bool (dtB b l at_ n)) w) := by
  have hb := sup_b hs
  have Hb0 : Hid (Below w.heap.size w (w.alloc (.cells #[.int .i64 b, .int .i64 l, .int .i64 q, .int .i64 t] 39))) := Lib.hid ((Below.refl _ w).alloc (Nat.le_refl _) _)
  have R0 : Hid ((w.alloc (.cells #[.int .i64 b, .int .i64 l, .int .i64 q, .int .i64 t] 39)).heap[w.heap.size]? = some (.cells #[.int .i64 b, .int .i64 l, .int .i64 q, .int .i64 t] 39 (0, 0))) := Lib.hid (heap_alloc_new w _)
  have Lt0 : Hid (w.heap.size < (w.alloc (.cells #[.int .i64 b, .int .i64 l, .int .i64 q, .int .i64 t] 39)).heap.size) := Lib.hid (by simp)
  have HV := Lib.hid (dtB_eq (b := b) (l := l) (at_ := at_) (n := n) hb.2.2.2.2.2 hb.2.2.1)
  have C1 := Lib.hid (fun W => by have := implDataFirst_any b l q t W hb.1 hb.2.1; rwa [show daOf b l q t = 3 + l from by simp [daOf, hs]] at this)
  generalize dtB b l at_ n = r at *
  unfold InI at hn
  by_cases h1 : 1 ≤ n
  rotate_left
  · have Hf : Hid (r = false) := Lib.hid (by rw [HV.out, decide_eq_false h1]; rfl)
    go_enter Try.func102, Try.ntmps102
    go_wp2_with fail
    go_ret
    exact ⟨by rw [Hf.out]; rfl, Hb0.out⟩
  have hw : wrap64 (b - n) = b - n := by have h := hb.2.2.2.2; unfold wrap64; omega
  have Hw := Lib.hid hw
  have HV2 : Hid (r = (decide (3 + l ≤ at_) && decide (at_ ≤ b - n))) := Lib.hid (by rw [HV.out, decide_eq_true h1]; rfl)
  have h1' : decide (1 ≤ n) = true := decide_eq_true h1
  have Hbb := Lib.hid hb
  clear HV hb hw
  have q0 : (w.alloc (.cells #[.int .i64 b, .int .i64 l, .int .i64 q, .int .i64 t] 39)).cell? ⟨w.heap.size, 0, none⟩ = some (.int .i64 b) := by rw [cell_of_row _ _ _ _ _ _ R0.out]; rfl
  have q1 : (w.alloc (.cells #[.int .i64 b, .int .i64 l, .int .i64 q, .int .i64 t] 39)).cell? ⟨w.heap.size, 1, none⟩ = some (.int .i64 l) := by rw [cell_of_row _ _ _ _ _ _ R0.out]; rfl
  have q2 : (w.alloc (.cells #[.int .i64 b, .int .i64 l, .int .i64 q, .int .i64 t] 39)).cell? ⟨w.heap.size, 2, none⟩ = some (.int .i64 q) := by rw [cell_of_row _ _ _ _ _ _ R0.out]; rfl
  have q3 : (w.alloc (.cells #[.int .i64 b, .int .i64 l, .int .i64 q, .int .i64 t] 39)).cell? ⟨w.heap.size, 3, none⟩ = some (.int .i64 t) := by rw [cell_of_row _ _ _ _ _ _ R0.out]; rfl
  go_enter Try.func102, Try.ntmps102
  go_wp2_with fail
  clear q0 q1 q2 q3
  generalize (w.alloc (.cells #[.int .i64 b, .int .i64 l, .int .i64 q, .int .i64 t] 39)) = w0 at *
  refine (C1.out _).mono ?_
  rintro e w1 ⟨rfl, g⟩
  have Hb1 := Lib.hid (Hb0.out.trans (g.mono Hb0.out.size))
  have R1 := Lib.hid ((g.block _ Lt0.out).trans R0.out)
  clear g C1
  by_cases h2 : 3 + l ≤ at_
  rotate_left
  · have Hf : Hid (r = false) := Lib.hid (by rw [HV2.out, decide_eq_false h2]; rfl)
    go_wp2_with fail
    go_ret
    exact ⟨by rw [Hf.out]; rfl, Hb1.out⟩
  have q0 : w1.cell? ⟨w.heap.size, 0, none⟩ = some (.int .i64 b) := by rw [cell_of_row _ _ _ _ _ _ R1.out]; rfl
  by_cases h3 : at_ ≤ b - n
  · have Hf : Hid (r = true) := Lib.hid (by rw [HV2.out, decide_eq_true h2, decide_eq_true h3]; rfl)
    have h3' : Hid (decide (at_ ≤ wrap64 (b - n)) = true) := Lib.hid (by rw [Hw.out]; exact decide_eq_true h3)
    go_wp2_with fail
    go_ret
    exact ⟨by rw [Hf.out]; first | rfl | exact congrArg (fun x => Ending.returned (.bool x)) h3'.out, Hb1.out⟩
  · have Hf : Hid (r = false) := Lib.hid (by rw [HV2.out, decide_eq_false h3]; simp)
    have h3' : Hid (decide (at_ ≤ wrap64 (b - n)) = false) := Lib.hid (by rw [Hw.out]; exact decide_eq_false h3)
    go_wp2_with fail
    go_ret
    exact ⟨by rw [Hf.out]; first | rfl | exact congrArg (fun x => Ending.returned (.bool x)) h3'.out, Hb1.out⟩
end Go.Proofs.Ytlickjmdlooapaa
