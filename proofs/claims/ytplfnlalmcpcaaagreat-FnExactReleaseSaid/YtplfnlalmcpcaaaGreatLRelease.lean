/- The statement of the law FnExactRelease: whatever the input, the program's function answers as the model's, every field; the answer owns its memory, and the input reads as it did. Its conditions are the given statement's own; nothing is added. -/
import Derived.Test.YtplfnlalmcpcaaaGreatJf
import Derived.Test.YtplfnlalmcpcaaaGreatAcc
import Derived.ProofKit
import Derived.OpenShut
import Derived.ShutString
import Derived.ChangeOld
import Derived.Below
import Derived.Deep.DeepFit
import Derived.Deep.WholeRow
import Derived.Deep.RegionHeld3
import Derived.Test.YtplfnlalmcpcaaaGreatRox
namespace Go.Proofs.YtplfnlalmcpcaaaGreat
open Go.RowKit
set_option linter.unusedVariables false
/-- The byte x without the bit i. -/
def rmV (x i : Nat) : Int := bits .andNot .u8 (x : Int) (2 ^ i)
set_option maxRecDepth 100000 in
theorem rmV_b : ∀ x, x < 256 → ∀ i, i < 8 → 0 ≤ rmV x i ∧ rmV x i < 256 := by decide +kernel
set_option maxRecDepth 100000 in
theorem rmV_bit : ∀ x, x < 256 → ∀ i, i < 8 → ∀ j, j < 8 → j ≠ i → bits .and .u8 (rmV x i / 2 ^ j) 1 = bits .and .u8 ((x : Int) / 2 ^ j) 1 := by decide +kernel
def rm (s : ByteArray) (n : Nat) : ByteArray := setB s (4 + n / 8) (UInt8.ofNat (rmV (s.data.toList.getD (4 + n / 8) 0).toNat (n % 8)).toNat)
theorem rm_size (s : ByteArray) (n : Nat) : (rm s n).size = s.size := setB_size ..
theorem rm_val (s : ByteArray) (n : Nat) : ((UInt8.ofNat (rmV (s.data.toList.getD (4 + n / 8) 0).toNat (n % 8)).toNat).toNat : Int) = rmV (s.data.toList.getD (4 + n / 8) 0).toNat (n % 8) := by
  have h := rmV_b _ (UInt8.toNat_lt (s.data.toList.getD (4 + n / 8) 0)) (n % 8) (Nat.mod_lt _ (by decide))
  generalize rmV _ (n % 8) = v at *
  rw [UInt8.toNat_ofNat', Nat.mod_eq_of_lt (by omega)]
  omega
theorem rm_bit (s : ByteArray) (n m : Nat) (hs : s.size = 64) (hn : n < 256) (hm : m < 256) (h : m ≠ n) : aB (rm s n) m = aB s m := by
  have h1 : 4 + n / 8 < s.size := by omega
  have h2 : 4 + m / 8 < s.size := by omega
  unfold aB
  rw [rm, setB_at s _ _ _ h1 h2]
  by_cases e : 4 + m / 8 = 4 + n / 8
  · rw [if_pos e, rm_val, e, rmV_bit _ (UInt8.toNat_lt _) (n % 8) (Nat.mod_lt _ (by decide)) (m % 8) (Nat.mod_lt _ (by decide)) (by omega)]
  · rw [if_neg e]
/-- The page without the first j of the blocks from a. -/
def rmN (s : ByteArray) (a : Nat) : Nat → ByteArray
  | 0 => s
  | j + 1 => rm (rmN s a j) (a + j)
theorem rmN_size (s : ByteArray) (a j : Nat) : (rmN s a j).size = s.size := by
  induction j with
  | zero => rfl
  | succ j ih => rw [rmN, rm_size, ih]
theorem rmN_bit (s : ByteArray) (a j m : Nat) (hs : s.size = 64) (hj : a + j ≤ 256) (hm : m < 256) (h : a + j ≤ m) : aB (rmN s a j) m = aB s m := by
  induction j with
  | zero => rfl
  | succ j ih => rw [rmN, rm_bit _ _ _ (by rw [rmN_size]; exact hs) (by omega) hm (by omega), ih (by omega) (by omega)]
/-- All blocks of the run are marked. -/
def allB (s : ByteArray) (a : Nat) : Nat → Bool
  | 0 => true
  | j + 1 => allB s a j && aB s (a + j)
theorem allB_no {s : ByteArray} {a j n : Nat} (h : aB s (a + j) = false) (hj : j < n) : allB s a n = false := by
  induction n with
  | zero => omega
  | succ n ih =>
    rw [allB]
    by_cases e : j = n
    · subst e; rw [h]; simp
    · rw [ih (by omega)]; rfl
theorem allB_succ {s : ByteArray} {a j : Nat} (h : allB s a j = true) (h2 : aB s (a + j) = true) : allB s a (j + 1) = true := by rw [allB, h, h2]; rfl
end Go.Proofs.YtplfnlalmcpcaaaGreat
namespace Go.Proofs.YtplfnlalmcpcaaaGreat
open Go.RowKit
set_option linter.unusedVariables false
set_option maxHeartbeats 4000000 in
set_option maxRecDepth 100000 in
theorem isTaken_any {w : World} {g cap : Nat} {ar : ByteArray} {b l q t k : Int} (hs : supOk b l q t = true) (hk : InI k) (hz : ar.size = 64) (hg : g < w.heap.size) (hA : ByA w g ar) :
    Calls Tryz.prog 66 #[.agg #[.int .i64 b, .int .i64 l, .int .i64 q, .int .i64 t, .slice (some ⟨g, 0, none⟩) 64 cap, .slice (some ⟨g, 4, none⟩) 32 32], .int .i64 k] w (GivesB (.bool (dtB b l k 1 && aB ar k.toNat)) w) := by
  have hb := sup_b hs
  have Hb0 : Hid (Below w.heap.size w (w.alloc (.cells #[.int .i64 b, .int .i64 l, .int .i64 q, .int .i64 t, .slice (some ⟨g, 0, none⟩) 64 cap, .slice (some ⟨g, 4, none⟩) 32 32] 91))) := Lib.hid ((Below.refl _ w).alloc (Nat.le_refl _) _)
  have R0 : Hid ((w.alloc (.cells #[.int .i64 b, .int .i64 l, .int .i64 q, .int .i64 t, .slice (some ⟨g, 0, none⟩) 64 cap, .slice (some ⟨g, 4, none⟩) 32 32] 91)).heap[w.heap.size]? = some (.cells #[.int .i64 b, .int .i64 l, .int .i64 q, .int .i64 t, .slice (some ⟨g, 0, none⟩) 64 cap, .slice (some ⟨g, 4, none⟩) 32 32] 91 (0, 0))) := Lib.hid (heap_alloc_new w _)
  have Lt0 : Hid (w.heap.size < (w.alloc (.cells #[.int .i64 b, .int .i64 l, .int .i64 q, .int .i64 t, .slice (some ⟨g, 0, none⟩) 64 cap, .slice (some ⟨g, 4, none⟩) 32 32] 91)).heap.size) := Lib.hid (by simp)
  have HA : Hid (∀ W, Below w.heap.size w W → ByA W g ar) := Lib.hid (fun W hW => hA.bel hg hW)
  have Hld := Lib.hid (run_load_cells (P := Tryz.prog) (w.alloc (.cells #[.int .i64 b, .int .i64 l, .int .i64 q, .int .i64 t, .slice (some ⟨g, 0, none⟩) 64 cap, .slice (some ⟨g, 4, none⟩) 32 32] 91)) w.heap.size 0 35 _ [.int .i64 b, .int .i64 l, .int .i64 q, .int .i64 t] (row_part R0.out (by intro j u hj; rcases j with _ | _ | _ | _ | j; all_goals first | exact hj | simp at hj)) Tryz.underlying35 rfl)
  have C1 := Lib.hid (fun W => hasRun_any (b := b) (l := l) (q := q) (t := t) k 1 W hs (by unfold InI; omega))
  have HK : Hid (dtB b l k 1 = true → 0 ≤ k ∧ k < 256) := Lib.hid (fun hd => by
    have := (dtB_iff (by omega) (by omega)).1 hd
    omega)
  generalize dtB b l k 1 = y at *
  clear hA hb hk
  go_enter Tryz.func66, Tryz.ntmps66
  go_wp2_with (refine wpList_load_agg rfl 35 (.tmp 5) rfl _ rfl _ Hld.out ?_)
  clear Hld
  generalize (w.alloc (.cells #[.int .i64 b, .int .i64 l, .int .i64 q, .int .i64 t, .slice (some ⟨g, 0, none⟩) 64 cap, .slice (some ⟨g, 4, none⟩) 32 32] 91)) = w0 at *
  refine (C1.out _).mono ?_
  rintro e w1 ⟨rfl, g1⟩
  have Hb1 := Lib.hid (Hb0.out.trans (g1.mono Hb0.out.size))
  have R1 := Lib.hid ((g1.block _ Lt0.out).trans R0.out)
  clear g1
  cases y
  · go_wp2_with fail
    go_ret
    exact ⟨by simp, Hb1.out⟩
  have hkk := HK.out (by first | rfl | trivial)
  obtain ⟨n, rfl⟩ : ∃ n : Nat, k = (n : Int) := ⟨k.toNat, by omega⟩
  have Hf : Hid ((true && aB ar (n : Int).toNat) = aB ar n) := Lib.hid (by simp)
  have C2 := Lib.hid (has_any hz (by omega : n < 256) (HA.out _ Hb1.out))
  generalize aB ar n = y at *
  have q5 : w1.cell? ⟨w.heap.size, 5, none⟩ = some (.slice (some ⟨g, 4, none⟩) 32 32) := by rw [cell_of_row _ _ _ _ _ _ R1.out]; rfl
  go_wp2_with ((go_at_call 119; refine C2.out.mono ?_; rintro e w' ⟨rfl, rfl⟩))
  go_ret
  exact ⟨by rw [Hf.out]; rfl, Hb1.out⟩
set_option maxHeartbeats 2000000 in
set_option maxRecDepth 100000 in
theorem remove_any {w : World} {g n : Nat} {s : ByteArray} (hs : s.size = 64) (hn : n < 256) (hg : ByR w g s) :
    Calls Tryz.prog 120 #[.slice (some ⟨g, 4, none⟩) 32 32, .int .i64 (n : Int)] w (fun e w' => e = .returned (.tuple #[]) ∧ ByR w' g (rm s n) ∧ w.grownBy w' (some g)) := by
  have h1 : n / 8 < 32 := by omega
  have q := hg.a (4 + n / 8) (by omega)
  have fz := hg.frozen (j := 4 + n / 8) (by omega)
  have HG := Lib.hid hg; clear hg
  have HV : Hid (rm s n = setB s (4 + n / 8) (UInt8.ofNat (rmV (s.data.toList.getD (4 + n / 8) 0).toNat (n % 8)).toNat)) := Lib.hid rfl
  have HU := Lib.hid (rm_val s n)
  have HX : Hid (rmV (s.data.toList.getD (4 + n / 8) 0).toNat (n % 8) = bits .andNot .u8 ((s.data.toList.getD (4 + n / 8) 0).toNat : Int) (2 ^ (n % 8) % 256)) := Lib.hid (by
    have : ∀ i, i < 8 → (2 : Int) ^ i % 256 = 2 ^ i := by decide
    rw [this _ (Nat.mod_lt _ (by decide))]; rfl)
  generalize rm s n = s2 at *
  generalize rmV (s.data.toList.getD (4 + n / 8) 0).toNat (n % 8) = v at *
  generalize UInt8.ofNat v.toNat = u at *
  have hz : (s.data.toList.getD (4 + n / 8) 0).toNat < 256 := UInt8.toNat_lt _
  generalize (s.data.toList.getD (4 + n / 8) 0).toNat = x at *
  go_enter Tryz.func120, Tryz.ntmps120
  go_region
  refine bodyPost_end (results_none rfl _ _ _) rfl ?_
  rw [← HX.out, ← HU.out, HV.out]
  exact ⟨rfl, HG.out.set (4 + n / 8) u (by omega) rfl, (Lib.grownBy_setCell w g (4 + n / 8) _).trans (Lib.grownBy_below (World.grownBy.refl _ _) (Below.refl _ _).drew)⟩
set_option maxHeartbeats 2000000 in
set_option maxRecDepth 100000 in
theorem releaseB_any {w : World} {g n cap : Nat} {s : ByteArray} {b l q t : Int} (hs : s.size = 64) (hn : n < 256) (hg : ByR w g s) :
    Calls Tryz.prog 67 #[.agg #[.int .i64 b, .int .i64 l, .int .i64 q, .int .i64 t, .slice (some ⟨g, 0, none⟩) 64 cap, .slice (some ⟨g, 4, none⟩) 32 32], .int .i64 (n : Int)] w (fun e w' => e = .returned (.tuple #[]) ∧ ByR w' g (rm s n) ∧ w.grownBy w' (some g)) := by
  have B0 : Hid (Below w.heap.size w (w.alloc (.cells #[.int .i64 b, .int .i64 l, .int .i64 q, .int .i64 t, .slice (some ⟨g, 0, none⟩) 64 cap, .slice (some ⟨g, 4, none⟩) 32 32] 91))) := Lib.hid ((Below.refl _ w).alloc (Nat.le_refl _) _)
  have R0 : Hid ((w.alloc (.cells #[.int .i64 b, .int .i64 l, .int .i64 q, .int .i64 t, .slice (some ⟨g, 0, none⟩) 64 cap, .slice (some ⟨g, 4, none⟩) 32 32] 91)).heap[w.heap.size]? = some (.cells #[.int .i64 b, .int .i64 l, .int .i64 q, .int .i64 t, .slice (some ⟨g, 0, none⟩) 64 cap, .slice (some ⟨g, 4, none⟩) 32 32] 91 (0, 0))) := Lib.hid (heap_alloc_new w _)
  have C1 := Lib.hid (remove_any hs hn (hg.bel B0.out))
  have c5 : (w.alloc (.cells #[.int .i64 b, .int .i64 l, .int .i64 q, .int .i64 t, .slice (some ⟨g, 0, none⟩) 64 cap, .slice (some ⟨g, 4, none⟩) 32 32] 91)).cell? ⟨w.heap.size, 5, none⟩ = some (.slice (some ⟨g, 4, none⟩) 32 32) := by rw [cell_of_row _ _ _ _ _ _ R0.out]; rfl
  generalize rm s n = s2 at *
  clear hg
  go_enter Tryz.func67, Tryz.ntmps67
  go_wp2_with fail
  refine C1.out.mono ?_
  rintro e w1 ⟨rfl, hy, g1⟩
  have HY := Lib.hid hy; have G1 := Lib.hid ((Lib.grownBy_below (World.grownBy.refl w (some g)) B0.out).trans g1); clear hy g1
  go_wp2_with fail
  refine bodyPost_end (results_none rfl _ _ _) rfl ?_
  exact ⟨rfl, HY.out, G1.out⟩
end Go.Proofs.YtplfnlalmcpcaaaGreat
namespace Go.Proofs.YtplfnlalmcpcaaaGreat
open Go.RowKit
set_option linter.unusedVariables false
set_option maxHeartbeats 4000000 in
set_option maxRecDepth 100000 in
theorem l13Mark_any {w : World} {s : ByteArray} {a n : Nat} (hs : s.size = 64) (hn : a + n ≤ 256) :
    Calls Tryz.prog 115 #[.string s, .int .i64 (a : Int), .int .i64 (n : Int), .bool false] w (GivesB (.string (rmN s a n)) w) := by
  have HZ := Lib.hid hs
  have HS : Hid (∀ j, (rmN s a j).size = 64) := Lib.hid (fun j => (rmN_size s a j).trans hs)
  have HI : Hid (∀ j, rmN s a (j + 1) = rm (rmN s a j) (a + j)) := Lib.hid (fun j => rfl)
  have H0 : Hid (rmN s a 0 = s) := Lib.hid rfl
  have hcv := Lib.run_convert_string_bytes (P := Tryz.prog) w 9 88 5 s Tryz.underlying9 Tryz.underlying88 Tryz.underlying5
  rw [hs] at hcv
  have HBy : Hid (ByR (Lib.bytesWorld w 5 s) w.heap.size s) := Lib.hid (byR_new w s)
  have Hk : Hid (Below w.heap.size w (Lib.bytesWorld w 5 s)) := Lib.hid (bw_below w s)
  generalize grownCap w 64 0 5 = cap at *
  go_enter Tryz.func115, Tryz.ntmps115
  go_wp2_with fail
  generalize Lib.bytesWorld w 5 s = w0 at *
  go_loopw [10] (fun iv wr => ∃ j : Nat, j ≤ n ∧ iv = .int .i64 ((a + j : Nat) : Int) ∧ ByR wr w.heap.size (rmN s a j) ∧ Below w.heap.size w wr) (fun iv _ => a + n - (intOf iv).toNat)
  case atStart => exact ⟨0, Nat.zero_le _, rfl, HBy.out, Hk.out⟩
  case round =>
    obtain ⟨j, hj, rfl, hy, hb⟩ := hrel
    have HY := Lib.hid hy; have HB := Lib.hid hb; clear hy hb
    by_cases hlt : j < n
    · have hm : a + j < 256 := by omega
      have d1 : decide (((a + j : Nat) : Int) < (a : Int) + (n : Int)) = true := decide_eq_true (by omega)
      have hz := HS.out j
      have q := HY.out.a (4 + (a + j) / 8) (by omega)
      have fz := HY.out.frozen (j := 4 + (a + j) / 8) (by omega)
      have HV : Hid (rmN s a (j + 1) = setB (rmN s a j) (4 + (a + j) / 8) (UInt8.ofNat (rmV ((rmN s a j).data.toList.getD (4 + (a + j) / 8) 0).toNat ((a + j) % 8)).toNat)) := Lib.hid rfl
      have HU := Lib.hid (rm_val (rmN s a j) (a + j))
      have HX : Hid (rmV ((rmN s a j).data.toList.getD (4 + (a + j) / 8) 0).toNat ((a + j) % 8) = bits .andNot .u8 (((rmN s a j).data.toList.getD (4 + (a + j) / 8) 0).toNat : Int) (2 ^ ((a + j) % 8) % 256)) := Lib.hid (by
        have : ∀ i, i < 8 → (2 : Int) ^ i % 256 = 2 ^ i := by decide
        rw [this _ (Nat.mod_lt _ (by decide))]; rfl)
      have HN : Hid (((a + j : Nat) : Int) + 1 = ((a + (j + 1) : Nat) : Int)) := Lib.hid (by omega)
      have HM : Hid (a + n - (a + (j + 1)) < a + n - (a + j)) := Lib.hid (by omega)
      have HJ : Hid (j + 1 ≤ n) := Lib.hid hlt
      generalize hs2 : rmN s a (j + 1) = s2 at *
      have HS2 := Lib.hid hs2; clear hs2
      generalize rmN s a j = sj at *
      generalize rmV (sj.data.toList.getD (4 + (a + j) / 8) 0).toNat ((a + j) % 8) = v at *
      generalize UInt8.ofNat v.toNat = u at *
      have hx : (sj.data.toList.getD (4 + (a + j) / 8) 0).toNat < 256 := UInt8.toNat_lt _
      generalize (sj.data.toList.getD (4 + (a + j) / 8) 0).toNat = x at *
      generalize hmm : a + j = m at *
      have HMM := Lib.hid hmm; clear hmm
      go_wp2_with fail
      go_roundw
      case rel =>
        refine ⟨j + 1, HJ.out, by rw [HN.out], ?_, HB.out.setCell (Nat.le_refl _) _⟩
        rw [HS2.out, ← HX.out, ← HU.out, HV.out]
        exact HY.out.set (4 + m / 8) u (by omega) rfl
      case measure =>
        have := HM.out; have := HMM.out; simp [intOf]; omega
    · obtain rfl : j = n := by omega
      have d1 : decide (((a + j : Nat) : Int) < (a : Int) + (j : Int)) = false := decide_eq_false (by omega)
      have hcv2 := byR_conv (cap := cap) (HS.out j) HY.out
      clear hcv
      go_wp2_with fail
      go_ret
      exact ⟨rfl, HB.out⟩
end Go.Proofs.YtplfnlalmcpcaaaGreat
namespace Go.Proofs.YtplfnlalmcpcaaaGreat
open Go.RowKit
set_option linter.unusedVariables false
/-- The page that Release leaves, whether it does, and its code. -/
def rlA (ss : List ByteArray) (ps : List Pt) (l : Int) (lg dt : List Pt) (k n : Int) : ByteArray := rmN (arS ss ps l lg dt) k.toNat n.toNat
def rlR (ss : List ByteArray) (ps : List Pt) (b l : Int) (lg dt : List Pt) (k n : Int) : Bool := dtB b l k n && (allB (arS ss ps l lg dt) k.toNat n.toNat && ftOk l ((mg dt [(2 + l, rlA ss ps l lg dt k n)]).length : Int))
def rlK (ss : List ByteArray) (ps : List Pt) (b l : Int) (lg dt : List Pt) (k n : Int) : Int := if dtB b l k n then (if allB (arS ss ps l lg dt) k.toNat n.toNat then wrC (ftOk l ((mg dt [(2 + l, rlA ss ps l lg dt k n)]).length : Int)) else 6) else 2
set_option maxHeartbeats 4000000 in
set_option maxRecDepth 100000 in
theorem l13Release_any {B g : Nat} {w : World} {v0 v1 v10 v11 : Value} {ss : List ByteArray} {ps lg dt : List Pt} {fz b l q t sq at_ k n : Int} {off : Bool} (hg : w.heap[g]? = some (.cells #[v0, v1, .int .i64 fz, .bool off, .int .i64 b, .int .i64 l, .int .i64 q, .int .i64 t, .int .i64 sq, .int .i64 at_, v10, v11] 38 (0, 0))) (h0 : RiT B w v0 ss) (h1 : RiU B w v1 ps) (h10 : RiU B w v10 lg) (h11 : RiU B w v11 dt) (hB : B ≤ w.heap.size) (hok : pgrOk ss ps fz off b l q t sq at_ lg dt = true) (ld : dt.length ≤ 256) (hk : InI k) :
    Calls Tryz.prog 65 #[.pointer (some ⟨g, 0, none⟩), .int .i64 k, .int .i64 n] w fun e w' => e = .returned (.int .i64 (rlK ss ps b l lg dt k n)) ∧ w.grownBy w' (some g) ∧
      wrT (rlR ss ps b l lg dt k n) (∃ A c, w'.heap[g]? = some (.cells #[v0, v1, .int .i64 fz, .bool off, .int .i64 b, .int .i64 l, .int .i64 q, .int .i64 t, .int .i64 sq, .int .i64 at_, v10, .slice A (mg dt [(2 + l, rlA ss ps l lg dt k n)]).length c] 38 (0, 0)) ∧ OG w' w.heap.size (.slice A (mg dt [(2 + l, rlA ss ps l lg dt k n)]).length c) (mg dt [(2 + l, rlA ss ps l lg dt k n)])) := by
  have hgl : g < w.heap.size := by
    rcases Nat.lt_or_ge g w.heap.size with hl | hl
    · exact hl
    · rw [Array.getElem?_eq_none hl] at hg; cases hg
  have hs := (pgrOk_t hok).1
  have hb := sup_b hs
  have HZ := Lib.hid (arS_64 hok)
  have HG := Lib.hid hg; have GL := Lib.hid hgl; have HBs := Lib.hid hB
  have H11 := Lib.hid h11
  have C0 := Lib.hid (l13Data_any k n hg hs hk)
  have CA : Hid (∀ W, Below w.heap.size w W → _) := Lib.hid (fun W (hW : Below w.heap.size w W) => l13Area_any (w := W) (fz := fz) (off := off) (b := b) (l := l) (q := q) (t := t) (sq := sq) (at_ := at_) ((hW.block _ hgl).trans hg) (h0.at hB hW) (h1.at hB hW) (h10.at hB hW) (h11.at hB hW) (Nat.le_refl _) hok)
  have HD : Hid (dtB b l k n = true → 1 ≤ n ∧ 3 + l ≤ k ∧ k ≤ b - n) := Lib.hid (fun h => (dtB_iff (by omega) (by omega)).1 h)
  have HR : Hid (rlR ss ps b l lg dt k n = (dtB b l k n && (allB (arS ss ps l lg dt) k.toNat n.toNat && ftOk l ((mg dt [(2 + l, rlA ss ps l lg dt k n)]).length : Int)))) := Lib.hid rfl
  have HC : Hid (rlK ss ps b l lg dt k n = if dtB b l k n then (if allB (arS ss ps l lg dt) k.toNat n.toNat then wrC (ftOk l ((mg dt [(2 + l, rlA ss ps l lg dt k n)]).length : Int)) else 6) else 2) := Lib.hid rfl
  have HA : Hid (rlA ss ps l lg dt k n = rmN (arS ss ps l lg dt) k.toNat n.toNat) := Lib.hid rfl
  have HS := Lib.hid hs
  clear h0 h1 h10 h11 hok hs
  generalize rlR ss ps b l lg dt k n = R at *
  generalize rlK ss ps b l lg dt k n = C at *
  generalize rlA ss ps l lg dt k n = ar2 at *
  generalize arS ss ps l lg dt = ar at *
  generalize dtB b l k n = y at *
  go_enter Tryz.func65, Tryz.ntmps65
  go_wp2_with fail
  refine C0.out.mono ?_
  rintro e w1 ⟨rfl, g1⟩
  have B1 := Lib.hid g1; clear g1
  cases y
  · go_wp2_with fail
    go_ret
    exact ⟨by rw [HC.out]; rfl, Lib.grownBy_below (World.grownBy.refl w (some g)) B1.out, fun h => by rw [HR.out] at h; cases h⟩
  have hd := HD.out rfl
  obtain ⟨a, rfl⟩ : ∃ a : Nat, k = (a : Int) := ⟨k.toNat, by omega⟩
  obtain ⟨m, rfl⟩ : ∃ m : Nat, n = (m : Int) := ⟨n.toNat, by omega⟩
  rw [Int.toNat_natCast, Int.toNat_natCast] at HR HC HA
  have ham : a + m ≤ 256 := by omega
  go_wp2_with fail
  refine (CA.out _ B1.out).mono ?_
  rintro e w2 ⟨rfl, g2⟩
  have B2 := Lib.hid (B1.out.trans (g2.mono B1.out.size)); clear g2
  have hl0 : 8 ≤ l := hb.2.2.1
  have hl1 : l ≤ 64 := hb.2.2.2.1
  go_wp2_with fail
  go_loopw [8] (fun iv wr => ∃ j : Nat, j ≤ m ∧ iv = .int .i64 ((a + j : Nat) : Int) ∧ allB ar a j = true ∧ Below w.heap.size w wr) (fun iv _ => a + m - (intOf iv).toNat)
  case atStart => exact ⟨0, Nat.zero_le _, rfl, rfl, B2.out⟩
  case round =>
    obtain ⟨j, hj, rfl, hal, hbl⟩ := hrel
    have HL := Lib.hid hal; have HB := Lib.hid hbl; clear hal hbl
    by_cases hlt : j < m
    · have hm : a + j < 256 := by omega
      have d1 : decide (((a + j : Nat) : Int) < (a : Int) + (m : Int)) = true := decide_eq_true (by omega)
      have CB := Lib.hid (l13Bit_any ar (a + j) HZ.out hm wr)
      have HN : Hid (((a + j : Nat) : Int) + 1 = ((a + (j + 1) : Nat) : Int)) := Lib.hid (by omega)
      have HM : Hid (a + m - (a + (j + 1)) < a + m - (a + j)) := Lib.hid (by omega)
      have HJ : Hid (j + 1 ≤ m) := Lib.hid hlt
      have HF : Hid (aB ar (a + j) = false → allB ar a m = false) := Lib.hid (fun h => allB_no h hlt)
      have HT : Hid (aB ar (a + j) = true → allB ar a (j + 1) = true) := Lib.hid (fun h => allB_succ HL.out h)
      generalize aB ar (a + j) = y at *
      generalize hmm : a + j = x at *
      have HMM := Lib.hid hmm; clear hmm
      go_wp2_with fail
      refine CB.out.mono ?_
      rintro e w' ⟨rfl, rfl⟩
      cases y
      · go_wp2_with fail
        go_ret
        have hf := HF.out (by trivial)
        rw [hf] at HC HR
        exact ⟨by rw [HC.out]; rfl, Lib.grownBy_below (World.grownBy.refl w (some g)) HB.out, fun h => by rw [HR.out] at h; cases h⟩
      · go_wp2_with fail
        go_roundw
        case rel =>
          exact ⟨j + 1, HJ.out, by rw [HN.out], HT.out (by trivial), HB.out⟩
        case measure =>
          have := HM.out; have := HMM.out; simp [intOf]; omega
    · obtain rfl : j = m := by omega
      have d1 : decide (((a + j : Nat) : Int) < (a : Int) + (j : Int)) = false := decide_eq_false (by omega)
      have CM := Lib.hid (l13Mark_any (w := wr) (a := a) (n := j) HZ.out ham)
      rw [← HA.out] at CM
      have hA2 : Hid (ar2.size ≤ maxLen) := Lib.hid (by rw [HA.out, rmN_size, HZ.out]; decide)
      rw [HL.out] at HC HR
      go_wp2_with fail
      refine CM.out.mono ?_
      rintro e w4 ⟨rfl, g4⟩
      have B4 := Lib.hid (HB.out.trans (g4.mono HB.out.size)); clear g4
      go_wp2_with fail
      have C3 := Lib.hid (l13Put_any (fz := fz) (off := off) (sq := sq) (at_ := at_) (ar := ar2) ((B4.out.block _ GL.out).trans HG.out) (H11.out.at HBs.out B4.out) (Nat.le_refl _) ld HS.out hA2.out)
      generalize hM : mg dt [(2 + l, ar2)] = M at *
      have HM := Lib.hid hM; clear hM
      generalize ftOk l (M.length : Int) = r at *
      refine C3.out.mono ?_
      rintro e w5 ⟨rfl, g5, fin⟩
      have Fin := Lib.hid fin; have G5 := Lib.hid ((Lib.grownBy_below (World.grownBy.refl w (some g)) B4.out).trans g5); clear fin g5
      go_wp2_with fail
      go_ret
      refine ⟨by rw [HC.out]; rfl, G5.out, fun h => ?_⟩
      rw [HR.out] at h
      obtain ⟨A, c, f1, f2⟩ := Fin.out (by simpa using h)
      rw [HM.out]
      exact ⟨A, c, f1, own_lo f2 B4.out.size⟩
end Go.Proofs.YtplfnlalmcpcaaaGreat
namespace Go.Proofs.YtplfnlalmcpcaaaGreat
open Go.RowKit Go.Maps
set_option linter.unusedVariables false
/-- What Release answers: whether a Pager, and the code. -/
def reO (ss : List ByteArray) (ps : List Pt) (fz : Int) (off : Bool) (b l q t sq at_ : Int) (lg dt : List Pt) (k n : Int) : Bool := pgrOk ss ps fz off b l q t sq at_ lg dt && (rlR ss ps b l lg dt k n)
def reK (ss : List ByteArray) (ps : List Pt) (fz : Int) (off : Bool) (b l q t sq at_ : Int) (lg dt : List Pt) (k n : Int) : Int := if pgrOk ss ps fz off b l q t sq at_ lg dt then (rlK ss ps b l lg dt k n) else 1
theorem rl_code (ss : List ByteArray) (ps : List Pt) (b l : Int) (lg dt : List Pt) (k n : Int) : ((rlR ss ps b l lg dt k n) = true ∧ (rlK ss ps b l lg dt k n) = 0) ∨ ((rlR ss ps b l lg dt k n) = false ∧ (rlK ss ps b l lg dt k n) ≠ 0 ∧ 0 ≤ (rlK ss ps b l lg dt k n) ∧ (rlK ss ps b l lg dt k n) < 10) := by
  unfold rlR rlK
  cases dtB b l k n
  · exact .inr ⟨rfl, by simp⟩
  · cases allB (arS ss ps l lg dt) k.toNat n.toNat
    · exact .inr ⟨rfl, by simp⟩
    · cases ftOk l ((mg dt [(2 + l, (rlA ss ps l lg dt k n))]).length : Int)
      · exact .inr ⟨rfl, by simp [wrC]⟩
      · exact .inl ⟨rfl, rfl⟩
set_option maxHeartbeats 8000000 in
set_option maxRecDepth 100000 in
theorem specRelease_any {w : World} {A0 A1 A10 A11 : Option Addr} {ss : List ByteArray} {ps lg dt : List Pt} {fz b l q t sq at_ : Int} {off : Bool} {k n : Int} (h0 : RiT w.heap.size w (.slice A0 ss.length ss.length) ss) (h1 : RiU w.heap.size w (.slice A1 ps.length ps.length) ps) (h10 : RiU w.heap.size w (.slice A10 lg.length lg.length) lg) (h11 : RiU w.heap.size w (.slice A11 dt.length dt.length) dt) (z0 : ss.length ≤ 1048576) (z1 : ps.length ≤ 1048576) (i4 : InI b) (i5 : InI l) (hx : (Lit.int .i64 k).wf = true) (hy : (Lit.int .i64 n).wf = true) :
    Calls Tryz.prog 21 #[.agg #[.slice A0 ss.length ss.length, .slice A1 ps.length ps.length, .int .i64 fz, .bool off, .int .i64 b, .int .i64 l, .int .i64 q, .int .i64 t, .int .i64 sq, .int .i64 at_, .slice A10 lg.length lg.length, .slice A11 dt.length dt.length], .int .i64 k, .int .i64 n] w (AnsP (mkC (reK ss ps fz off b l q t sq at_ lg dt k n)) (sT (reO ss ps fz off b l q t sq at_ lg dt k n) ss) (sT (reO ss ps fz off b l q t sq at_ lg dt k n) ps) (sI (reO ss ps fz off b l q t sq at_ lg dt k n) fz) (sB (reO ss ps fz off b l q t sq at_ lg dt k n) off) (sI (reO ss ps fz off b l q t sq at_ lg dt k n) b) (sI (reO ss ps fz off b l q t sq at_ lg dt k n) l) (sI (reO ss ps fz off b l q t sq at_ lg dt k n) q) (sI (reO ss ps fz off b l q t sq at_ lg dt k n) t) (sI (reO ss ps fz off b l q t sq at_ lg dt k n) sq) (sI (reO ss ps fz off b l q t sq at_ lg dt k n) at_) (sT (reO ss ps fz off b l q t sq at_ lg dt k n) lg) (sT (reO ss ps fz off b l q t sq at_ lg dt k n) (mg dt [(2 + l, rlA ss ps l lg dt k n)])) w) := by
  have Ik : Hid (InI k) := Lib.hid (by unfold InI; simp [Lit.wf, IntKind.min, IntKind.max, IntKind.signed, IntKind.bits] at hx; omega)
  have In : Hid (InI n) := Lib.hid (by unfold InI; simp [Lit.wf, IntKind.min, IntKind.max, IntKind.signed, IntKind.bits] at hy; omega)
  have HO : Hid ((reO ss ps fz off b l q t sq at_ lg dt k n) = (pgrOk ss ps fz off b l q t sq at_ lg dt && (rlR ss ps b l lg dt k n))) := Lib.hid rfl
  have HC : Hid ((reK ss ps fz off b l q t sq at_ lg dt k n) = if pgrOk ss ps fz off b l q t sq at_ lg dt then (rlK ss ps b l lg dt k n) else 1) := Lib.hid rfl
  generalize (reO ss ps fz off b l q t sq at_ lg dt k n) = O at *
  generalize (reK ss ps fz off b l q t sq at_ lg dt k n) = C at *
  have Hok := Lib.hid (pgrOk_t (ss := ss) (ps := ps) (fz := fz) (off := off) (b := b) (l := l) (q := q) (t := t) (sq := sq) (at_ := at_) (lg := lg) (dt := dt))
  have Hpb := Lib.hid (pgrOk_b (ss := ss) (ps := ps) (fz := fz) (off := off) (b := b) (l := l) (q := q) (t := t) (sq := sq) (at_ := at_) (lg := lg) (dt := dt))
  have Hpl := Lib.hid (pgrOk_l (ss := ss) (ps := ps) (fz := fz) (off := off) (b := b) (l := l) (q := q) (t := t) (sq := sq) (at_ := at_) (lg := lg) (dt := dt))
  have Har := Lib.hid (arS_64 (ss := ss) (ps := ps) (fz := fz) (off := off) (b := b) (l := l) (q := q) (t := t) (sq := sq) (at_ := at_) (lg := lg) (dt := dt))
  have H0 := Lib.hid h0; have H1 := Lib.hid h1; have H10 := Lib.hid h10; have H11 := Lib.hid h11
  clear h0 h1 h10 h11
  have B0 : Hid (Below w.heap.size w ((w.alloc (.cells #[.slice A0 ss.length ss.length, .slice A1 ps.length ps.length, .int .i64 fz, .bool off, .int .i64 b, .int .i64 l, .int .i64 q, .int .i64 t, .int .i64 sq, .int .i64 at_, .slice A10 lg.length lg.length, .slice A11 dt.length dt.length] 38)).alloc (.cells #[.slice none 0 0, .slice none 0 0, .int .i64 0, .bool false, .int .i64 0, .int .i64 0, .int .i64 0, .int .i64 0, .int .i64 0, .int .i64 0, .slice none 0 0, .slice none 0 0] 38))) := Lib.hid (((Below.refl _ w).alloc (Nat.le_refl _) _).alloc (by simp) _)
  have R0 : Hid (((w.alloc (.cells #[.slice A0 ss.length ss.length, .slice A1 ps.length ps.length, .int .i64 fz, .bool off, .int .i64 b, .int .i64 l, .int .i64 q, .int .i64 t, .int .i64 sq, .int .i64 at_, .slice A10 lg.length lg.length, .slice A11 dt.length dt.length] 38)).alloc (.cells #[.slice none 0 0, .slice none 0 0, .int .i64 0, .bool false, .int .i64 0, .int .i64 0, .int .i64 0, .int .i64 0, .int .i64 0, .int .i64 0, .slice none 0 0, .slice none 0 0] 38)).heap[w.heap.size]? = some (.cells #[.slice A0 ss.length ss.length, .slice A1 ps.length ps.length, .int .i64 fz, .bool off, .int .i64 b, .int .i64 l, .int .i64 q, .int .i64 t, .int .i64 sq, .int .i64 at_, .slice A10 lg.length lg.length, .slice A11 dt.length dt.length] 38 (0, 0))) := Lib.hid (heap_alloc2_old w _ _)
  have Q0 : Hid (((w.alloc (.cells #[.slice A0 ss.length ss.length, .slice A1 ps.length ps.length, .int .i64 fz, .bool off, .int .i64 b, .int .i64 l, .int .i64 q, .int .i64 t, .int .i64 sq, .int .i64 at_, .slice A10 lg.length lg.length, .slice A11 dt.length dt.length] 38)).alloc (.cells #[.slice none 0 0, .slice none 0 0, .int .i64 0, .bool false, .int .i64 0, .int .i64 0, .int .i64 0, .int .i64 0, .int .i64 0, .int .i64 0, .slice none 0 0, .slice none 0 0] 38)).heap[w.heap.size + 1]? = some (.cells #[.slice none 0 0, .slice none 0 0, .int .i64 0, .bool false, .int .i64 0, .int .i64 0, .int .i64 0, .int .i64 0, .int .i64 0, .int .i64 0, .slice none 0 0, .slice none 0 0] 38 (0, 0))) := Lib.hid (heap_alloc2_new w _ _)
  have Z0 : Hid (w.heap.size + 2 ≤ ((w.alloc (.cells #[.slice A0 ss.length ss.length, .slice A1 ps.length ps.length, .int .i64 fz, .bool off, .int .i64 b, .int .i64 l, .int .i64 q, .int .i64 t, .int .i64 sq, .int .i64 at_, .slice A10 lg.length lg.length, .slice A11 dt.length dt.length] 38)).alloc (.cells #[.slice none 0 0, .slice none 0 0, .int .i64 0, .bool false, .int .i64 0, .int .i64 0, .int .i64 0, .int .i64 0, .int .i64 0, .int .i64 0, .slice none 0 0, .slice none 0 0] 38)).heap.size) := Lib.hid (by simp)
  have C1 := Lib.hid (l12Ok_any R0.out (H0.out.at (Nat.le_refl _) B0.out) (H1.out.at (Nat.le_refl _) B0.out) (H10.out.at (Nat.le_refl _) B0.out) (H11.out.at (Nat.le_refl _) B0.out) (Nat.le_refl _) i4 i5)
  generalize hz : pgrOk ss ps fz off b l q t sq at_ lg dt = z at *
  have HK0 := Lib.hid hz; clear hz
  go_enter Tryz.func21, Tryz.ntmps21
  go_wp2_with fail
  generalize ((w.alloc (.cells #[.slice A0 ss.length ss.length, .slice A1 ps.length ps.length, .int .i64 fz, .bool off, .int .i64 b, .int .i64 l, .int .i64 q, .int .i64 t, .int .i64 sq, .int .i64 at_, .slice A10 lg.length lg.length, .slice A11 dt.length dt.length] 38)).alloc (.cells #[.slice none 0 0, .slice none 0 0, .int .i64 0, .bool false, .int .i64 0, .int .i64 0, .int .i64 0, .int .i64 0, .int .i64 0, .int .i64 0, .slice none 0 0, .slice none 0 0] 38)) = w0 at *
  refine C1.out.mono ?_
  rintro e w1 ⟨rfl, g⟩
  have B1 := Lib.hid (B0.out.trans (g.mono B0.out.size))
  have R1 := Lib.hid ((g.block _ (by have := Z0.out; omega)).trans R0.out)
  have Q1 := Lib.hid ((g.block _ (by have := Z0.out; omega)).trans Q0.out)
  have Z1 : Hid (w.heap.size + 2 ≤ w1.heap.size) := Lib.hid (by have := Z0.out; have := g.size; omega)
  clear g
  cases z
  · skip
    go_wp2_with (refine wpList_store_row rfl 38 (.tmp 6) (.tmp 12) rfl (w.heap.size + 1) #[.slice none 0 0, .slice none 0 0, .int .i64 0, .bool false, .int .i64 0, .int .i64 0, .int .i64 0, .int .i64 0, .int .i64 0, .int .i64 0, .slice none 0 0, .slice none 0 0] rfl rfl 38 _ Q1.out infoP rfl (onePv ..) ?_)
    refine bodyPost_ret (v := .tuple #[.agg #[.slice none 0 0, .slice none 0 0, .int .i64 0, .bool false, .int .i64 0, .int .i64 0, .int .i64 0, .int .i64 0, .int .i64 0, .int .i64 0, .slice none 0 0, .slice none 0 0], .int .i64 1]) ?_ rfl ?_
    · exact results_cell_row2 rfl _ _ (w.heap.size + 1) 38 _ (0, 0) _ _ rfl rfl (setRow_heap _ _ _ _ _ _ Q1.out) Tryz.underlying38 rfl (by kernel_rfl)
    · rw [HC.out]; exact AnsP.zero (mk := mkC 1) (by rw [HO.out]; rfl) (by omega) (by have := Z1.out; omega) B1.out
  have HQ := Lib.hid (Hok.out rfl); have HP := Lib.hid (Hpl.out rfl); have HB := Lib.hid (Hpb.out rfl); have HK := HK0; clear Hok Hpl Hpb Har
  go_wp2_with fail
  refine (l12Own_any R1.out (H0.out.at (Nat.le_refl _) B1.out) (H1.out.at (Nat.le_refl _) B1.out) (H10.out.at (Nat.le_refl _) B1.out) (H11.out.at (Nat.le_refl _) B1.out) z0 z1 (by have := HP.out.1; omega) (by have := HP.out.2.1; omega)).mono ?_
  rintro e w2 ⟨X0, X1, X10, X11, x0, x1, x10, x11, rfl, pg, g⟩
  have Pg := Lib.hid pg; clear pg
  have Zl : Hid (w1.heap.size ≤ w2.heap.size) := Lib.hid g.size
  have B2 := Lib.hid (B1.out.trans (g.mono B1.out.size))
  have R2 := Lib.hid ((g.block _ (by have := Z1.out; omega)).trans R1.out)
  have Q2 := Lib.hid ((g.block _ (by have := Z1.out; omega)).trans Q1.out)
  have Z2 : Hid (w.heap.size + 2 ≤ w2.heap.size) := Lib.hid (by have := Z1.out; have := g.size; omega)
  clear g
  have Rb : Hid ((w2.alloc (.cells #[.slice X0 ss.length x0, .slice X1 ps.length x1, .int .i64 fz, .bool off, .int .i64 b, .int .i64 l, .int .i64 q, .int .i64 t, .int .i64 sq, .int .i64 at_, .slice X10 lg.length x10, .slice X11 dt.length x11] 38)).heap[w2.heap.size]? = some (.cells #[.slice X0 ss.length x0, .slice X1 ps.length x1, .int .i64 fz, .bool off, .int .i64 b, .int .i64 l, .int .i64 q, .int .i64 t, .int .i64 sq, .int .i64 at_, .slice X10 lg.length x10, .slice X11 dt.length x11] 38 (0, 0))) := Lib.hid (heap_alloc_new w2 _)
  have Bb : Hid (Below w2.heap.size w2 (w2.alloc (.cells #[.slice X0 ss.length x0, .slice X1 ps.length x1, .int .i64 fz, .bool off, .int .i64 b, .int .i64 l, .int .i64 q, .int .i64 t, .int .i64 sq, .int .i64 at_, .slice X10 lg.length x10, .slice X11 dt.length x11] 38))) := Lib.hid ((Below.refl _ _).alloc (Nat.le_refl _) _)
  have Pb := Lib.hid (Pg.out.bel Bb.out)
  have Zbb : Hid (w2.heap.size < (w2.alloc (.cells #[.slice X0 ss.length x0, .slice X1 ps.length x1, .int .i64 fz, .bool off, .int .i64 b, .int .i64 l, .int .i64 q, .int .i64 t, .int .i64 sq, .int .i64 at_, .slice X10 lg.length x10, .slice X11 dt.length x11] 38)).heap.size) := Lib.hid (by simp)
  have R3 := Lib.hid ((Bb.out.block _ (by have := Z2.out; omega)).trans R2.out)
  have Q3 := Lib.hid ((Bb.out.block _ (by have := Z2.out; omega)).trans Q2.out)
  have B3 := Lib.hid (B2.out.trans (Bb.out.mono B2.out.size))
  have Z3 : Hid (w.heap.size + 2 ≤ (w2.alloc (.cells #[.slice X0 ss.length x0, .slice X1 ps.length x1, .int .i64 fz, .bool off, .int .i64 b, .int .i64 l, .int .i64 q, .int .i64 t, .int .i64 sq, .int .i64 at_, .slice X10 lg.length x10, .slice X11 dt.length x11] 38)).heap.size) := Lib.hid (by have := Z2.out; have := Zbb.out; omega)
  have C3 := Lib.hid (l13Release_any (k := k) (n := n) Rb.out (Pb.out.1.rit H0.out.len) (Pb.out.2.1.riu H1.out.wf) (Pb.out.2.2.1.riu H10.out.wf) (Pb.out.2.2.2.1.riu H11.out.wf) (Nat.le_refl _) HK.out HP.out.2.1 Ik.out)
  have HD := Lib.hid (rl_code ss ps b l lg dt k n)
  generalize (rlA ss ps l lg dt k n) = ar2 at *
  generalize mg dt [(2 + l, ar2)] = M at *
  generalize (rlR ss ps b l lg dt k n) = r at *
  generalize (rlK ss ps b l lg dt k n) = c at *
  go_wp2_with fail
  generalize (w2.alloc (.cells #[.slice X0 ss.length x0, .slice X1 ps.length x1, .int .i64 fz, .bool off, .int .i64 b, .int .i64 l, .int .i64 q, .int .i64 t, .int .i64 sq, .int .i64 at_, .slice X10 lg.length x10, .slice X11 dt.length x11] 38)) = w3 at *
  refine C3.out.mono ?_
  rintro e wf ⟨rfl, g6, fin⟩
  have Fin := Lib.hid fin; clear fin
  have Qf := Lib.hid (grown_blk g6 (by have := Z3.out; omega) (by have := Z2.out; omega) Q3.out)
  have Bf : Hid (Below w.heap.size w wf) := Lib.hid (B3.out.grown g6 B3.out.size (fun j hj => by cases hj; have := Z2.out; omega))
  have Zf : Hid (w.heap.size + 2 ≤ wf.heap.size) := Lib.hid (by have := Z3.out; have := g6.size; omega)
  have hcz := HD.out
  rcases hcz with ⟨rfl, rfl⟩ | ⟨rfl, hc0, hc1, hc2⟩
  rotate_left
  · have d1 : (c != 0) = true := by simp [hc0]
    go_wp2_with (refine wpList_store_row rfl 38 (.tmp 6) (.tmp 19) rfl (w.heap.size + 1) #[.slice none 0 0, .slice none 0 0, .int .i64 0, .bool false, .int .i64 0, .int .i64 0, .int .i64 0, .int .i64 0, .int .i64 0, .int .i64 0, .slice none 0 0, .slice none 0 0] rfl rfl 38 _ Qf.out infoP rfl (onePv ..) ?_)
    refine bodyPost_ret (v := .tuple #[.agg #[.slice none 0 0, .slice none 0 0, .int .i64 0, .bool false, .int .i64 0, .int .i64 0, .int .i64 0, .int .i64 0, .int .i64 0, .int .i64 0, .slice none 0 0, .slice none 0 0], .int .i64 c]) ?_ rfl ?_
    · exact results_cell_row2 rfl _ _ (w.heap.size + 1) 38 _ (0, 0) _ _ rfl rfl (setRow_heap _ _ _ _ _ _ Qf.out) Tryz.underlying38 rfl (by kernel_rfl)
    · have eC : C = c := by rw [HC.out]; rfl
      rw [eC]; exact AnsP.zero (mk := mkC c) (by rw [HO.out]; rfl) (by omega) (by have := Zf.out; omega) Bf.out
  clear HD
  obtain ⟨Y, y', hrow, ho⟩ := Fin.out rfl
  have Hr := Lib.hid hrow
  have Pf : Hid (PgO wf w1.heap.size (.slice X0 ss.length x0) (.slice X1 ps.length x1) (.slice X10 lg.length x10) (.slice Y M.length y') ss ps lg M) := Lib.hid (pgo_box Pb.out Pg.out g6 ho)
  clear hrow ho g6 Fin
  go_wp2_with (first | (refine wpList_load_row rfl 38 (.tmp 8) rfl _ rfl 38 _ (0, 0) _ Hr.out Tryz.underlying38 rfl (by kernel_rfl) ?_) | (refine wpList_store_row rfl 38 (.tmp 6) (.tmp 21) rfl (w.heap.size + 1) #[.slice X0 ss.length x0, .slice X1 ps.length x1, .int .i64 fz, .bool off, .int .i64 b, .int .i64 l, .int .i64 q, .int .i64 t, .int .i64 sq, .int .i64 at_, .slice X10 lg.length x10, .slice Y M.length y'] rfl rfl 38 _ Qf.out infoP rfl (onePv ..) ?_))
  refine bodyPost_ret (v := .tuple #[.agg #[.slice X0 ss.length x0, .slice X1 ps.length x1, .int .i64 fz, .bool off, .int .i64 b, .int .i64 l, .int .i64 q, .int .i64 t, .int .i64 sq, .int .i64 at_, .slice X10 lg.length x10, .slice Y M.length y'], .int .i64 0]) ?_ rfl ?_
  · exact results_cell_row2 rfl _ _ (w.heap.size + 1) 38 _ (0, 0) _ _ rfl rfl (setRow_heap _ _ _ _ _ _ Qf.out) Tryz.underlying38 rfl (by kernel_rfl)
  · have eC : C = 0 := by rw [HC.out]; rfl
    rw [eC]; exact AnsP.full (by rw [HO.out]; rfl) (AnsP.end (mk := mkC 0) (lo := w1.heap.size) Pf.out (by have := Z1.out; omega) (by omega) Bf.out)
end Go.Proofs.YtplfnlalmcpcaaaGreat
namespace Go.Proofs.YtplfnlalmcpcaaaGreat
open Go.RowKit Go.Maps
set_option linter.unusedVariables false
set_option maxHeartbeats 8000000 in
set_option maxRecDepth 100000 in
theorem implRelease_any {w : World} {A0 A1 A10 A11 : Option Addr} {ss : List ByteArray} {ps lg dt : List Pt} {fz b l q t sq at_ : Int} {off : Bool} {k n : Int} (h0 : RiT w.heap.size w (.slice A0 ss.length ss.length) ss) (h1 : RiU w.heap.size w (.slice A1 ps.length ps.length) ps) (h10 : RiU w.heap.size w (.slice A10 lg.length lg.length) lg) (h11 : RiU w.heap.size w (.slice A11 dt.length dt.length) dt) (z0 : ss.length ≤ 1048576) (z1 : ps.length ≤ 1048576) (i4 : InI b) (i5 : InI l) (hx : (Lit.int .i64 k).wf = true) (hy : (Lit.int .i64 n).wf = true) :
    Calls Tryz.prog 22 #[.agg #[.slice A0 ss.length ss.length, .slice A1 ps.length ps.length, .int .i64 fz, .bool off, .int .i64 b, .int .i64 l, .int .i64 q, .int .i64 t, .int .i64 sq, .int .i64 at_, .slice A10 lg.length lg.length, .slice A11 dt.length dt.length], .int .i64 k, .int .i64 n] w (AnsP (mkC (reK ss ps fz off b l q t sq at_ lg dt k n)) (sT (reO ss ps fz off b l q t sq at_ lg dt k n) ss) (sT (reO ss ps fz off b l q t sq at_ lg dt k n) ps) (sI (reO ss ps fz off b l q t sq at_ lg dt k n) fz) (sB (reO ss ps fz off b l q t sq at_ lg dt k n) off) (sI (reO ss ps fz off b l q t sq at_ lg dt k n) b) (sI (reO ss ps fz off b l q t sq at_ lg dt k n) l) (sI (reO ss ps fz off b l q t sq at_ lg dt k n) q) (sI (reO ss ps fz off b l q t sq at_ lg dt k n) t) (sI (reO ss ps fz off b l q t sq at_ lg dt k n) sq) (sI (reO ss ps fz off b l q t sq at_ lg dt k n) at_) (sT (reO ss ps fz off b l q t sq at_ lg dt k n) lg) (sT (reO ss ps fz off b l q t sq at_ lg dt k n) (mg dt [(2 + l, rlA ss ps l lg dt k n)])) w) := by
  have Ik : Hid (InI k) := Lib.hid (by unfold InI; simp [Lit.wf, IntKind.min, IntKind.max, IntKind.signed, IntKind.bits] at hx; omega)
  have In : Hid (InI n) := Lib.hid (by unfold InI; simp [Lit.wf, IntKind.min, IntKind.max, IntKind.signed, IntKind.bits] at hy; omega)
  have HO : Hid ((reO ss ps fz off b l q t sq at_ lg dt k n) = (pgrOk ss ps fz off b l q t sq at_ lg dt && (rlR ss ps b l lg dt k n))) := Lib.hid rfl
  have HC : Hid ((reK ss ps fz off b l q t sq at_ lg dt k n) = if pgrOk ss ps fz off b l q t sq at_ lg dt then (rlK ss ps b l lg dt k n) else 1) := Lib.hid rfl
  generalize (reO ss ps fz off b l q t sq at_ lg dt k n) = O at *
  generalize (reK ss ps fz off b l q t sq at_ lg dt k n) = C at *
  have Hok := Lib.hid (pgrOk_t (ss := ss) (ps := ps) (fz := fz) (off := off) (b := b) (l := l) (q := q) (t := t) (sq := sq) (at_ := at_) (lg := lg) (dt := dt))
  have Hpb := Lib.hid (pgrOk_b (ss := ss) (ps := ps) (fz := fz) (off := off) (b := b) (l := l) (q := q) (t := t) (sq := sq) (at_ := at_) (lg := lg) (dt := dt))
  have Hpl := Lib.hid (pgrOk_l (ss := ss) (ps := ps) (fz := fz) (off := off) (b := b) (l := l) (q := q) (t := t) (sq := sq) (at_ := at_) (lg := lg) (dt := dt))
  have Har := Lib.hid (arS_64 (ss := ss) (ps := ps) (fz := fz) (off := off) (b := b) (l := l) (q := q) (t := t) (sq := sq) (at_ := at_) (lg := lg) (dt := dt))
  have H0 := Lib.hid h0; have H1 := Lib.hid h1; have H10 := Lib.hid h10; have H11 := Lib.hid h11
  clear h0 h1 h10 h11
  have B0 : Hid (Below w.heap.size w ((w.alloc (.cells #[.slice A0 ss.length ss.length, .slice A1 ps.length ps.length, .int .i64 fz, .bool off, .int .i64 b, .int .i64 l, .int .i64 q, .int .i64 t, .int .i64 sq, .int .i64 at_, .slice A10 lg.length lg.length, .slice A11 dt.length dt.length] 38)).alloc (.cells #[.slice none 0 0, .slice none 0 0, .int .i64 0, .bool false, .int .i64 0, .int .i64 0, .int .i64 0, .int .i64 0, .int .i64 0, .int .i64 0, .slice none 0 0, .slice none 0 0] 38))) := Lib.hid (((Below.refl _ w).alloc (Nat.le_refl _) _).alloc (by simp) _)
  have R0 : Hid (((w.alloc (.cells #[.slice A0 ss.length ss.length, .slice A1 ps.length ps.length, .int .i64 fz, .bool off, .int .i64 b, .int .i64 l, .int .i64 q, .int .i64 t, .int .i64 sq, .int .i64 at_, .slice A10 lg.length lg.length, .slice A11 dt.length dt.length] 38)).alloc (.cells #[.slice none 0 0, .slice none 0 0, .int .i64 0, .bool false, .int .i64 0, .int .i64 0, .int .i64 0, .int .i64 0, .int .i64 0, .int .i64 0, .slice none 0 0, .slice none 0 0] 38)).heap[w.heap.size]? = some (.cells #[.slice A0 ss.length ss.length, .slice A1 ps.length ps.length, .int .i64 fz, .bool off, .int .i64 b, .int .i64 l, .int .i64 q, .int .i64 t, .int .i64 sq, .int .i64 at_, .slice A10 lg.length lg.length, .slice A11 dt.length dt.length] 38 (0, 0))) := Lib.hid (heap_alloc2_old w _ _)
  have Q0 : Hid (((w.alloc (.cells #[.slice A0 ss.length ss.length, .slice A1 ps.length ps.length, .int .i64 fz, .bool off, .int .i64 b, .int .i64 l, .int .i64 q, .int .i64 t, .int .i64 sq, .int .i64 at_, .slice A10 lg.length lg.length, .slice A11 dt.length dt.length] 38)).alloc (.cells #[.slice none 0 0, .slice none 0 0, .int .i64 0, .bool false, .int .i64 0, .int .i64 0, .int .i64 0, .int .i64 0, .int .i64 0, .int .i64 0, .slice none 0 0, .slice none 0 0] 38)).heap[w.heap.size + 1]? = some (.cells #[.slice none 0 0, .slice none 0 0, .int .i64 0, .bool false, .int .i64 0, .int .i64 0, .int .i64 0, .int .i64 0, .int .i64 0, .int .i64 0, .slice none 0 0, .slice none 0 0] 38 (0, 0))) := Lib.hid (heap_alloc2_new w _ _)
  have Z0 : Hid (w.heap.size + 2 ≤ ((w.alloc (.cells #[.slice A0 ss.length ss.length, .slice A1 ps.length ps.length, .int .i64 fz, .bool off, .int .i64 b, .int .i64 l, .int .i64 q, .int .i64 t, .int .i64 sq, .int .i64 at_, .slice A10 lg.length lg.length, .slice A11 dt.length dt.length] 38)).alloc (.cells #[.slice none 0 0, .slice none 0 0, .int .i64 0, .bool false, .int .i64 0, .int .i64 0, .int .i64 0, .int .i64 0, .int .i64 0, .int .i64 0, .slice none 0 0, .slice none 0 0] 38)).heap.size) := Lib.hid (by simp)
  have C1 := Lib.hid (implValidPager_any (fz := fz) (off := off) (b := b) (l := l) (q := q) (t := t) (sq := sq) (at_ := at_) (H0.out.at (Nat.le_refl _) B0.out) (H1.out.at (Nat.le_refl _) B0.out) (H10.out.at (Nat.le_refl _) B0.out) (H11.out.at (Nat.le_refl _) B0.out) (Nat.le_refl _) i4 i5)
  generalize hz : pgrOk ss ps fz off b l q t sq at_ lg dt = z at *
  have HK0 := Lib.hid hz; clear hz
  go_enter Tryz.func22, Tryz.ntmps22
  go_wp2_with (refine wpList_load_row rfl 38 (.tmp 3) rfl _ rfl 38 _ (0, 0) _ R0.out Tryz.underlying38 rfl (by kernel_rfl) ?_)
  generalize ((w.alloc (.cells #[.slice A0 ss.length ss.length, .slice A1 ps.length ps.length, .int .i64 fz, .bool off, .int .i64 b, .int .i64 l, .int .i64 q, .int .i64 t, .int .i64 sq, .int .i64 at_, .slice A10 lg.length lg.length, .slice A11 dt.length dt.length] 38)).alloc (.cells #[.slice none 0 0, .slice none 0 0, .int .i64 0, .bool false, .int .i64 0, .int .i64 0, .int .i64 0, .int .i64 0, .int .i64 0, .int .i64 0, .slice none 0 0, .slice none 0 0] 38)) = w0 at *
  refine C1.out.mono ?_
  rintro e w1 ⟨rfl, g⟩
  have B1 := Lib.hid (B0.out.trans (g.mono B0.out.size))
  have R1 := Lib.hid ((g.block _ (by have := Z0.out; omega)).trans R0.out)
  have Q1 := Lib.hid ((g.block _ (by have := Z0.out; omega)).trans Q0.out)
  have Z1 : Hid (w.heap.size + 2 ≤ w1.heap.size) := Lib.hid (by have := Z0.out; have := g.size; omega)
  clear g
  cases z
  · skip
    go_wp2_with (refine wpList_store_row rfl 38 (.tmp 6) (.tmp 13) rfl (w.heap.size + 1) #[.slice none 0 0, .slice none 0 0, .int .i64 0, .bool false, .int .i64 0, .int .i64 0, .int .i64 0, .int .i64 0, .int .i64 0, .int .i64 0, .slice none 0 0, .slice none 0 0] rfl rfl 38 _ Q1.out infoP rfl (onePv ..) ?_)
    refine bodyPost_ret (v := .tuple #[.agg #[.slice none 0 0, .slice none 0 0, .int .i64 0, .bool false, .int .i64 0, .int .i64 0, .int .i64 0, .int .i64 0, .int .i64 0, .int .i64 0, .slice none 0 0, .slice none 0 0], .int .i64 1]) ?_ rfl ?_
    · exact results_cell_row2 rfl _ _ (w.heap.size + 1) 38 _ (0, 0) _ _ rfl rfl (setRow_heap _ _ _ _ _ _ Q1.out) Tryz.underlying38 rfl (by kernel_rfl)
    · rw [HC.out]; exact AnsP.zero (mk := mkC 1) (by rw [HO.out]; rfl) (by omega) (by have := Z1.out; omega) B1.out
  have HQ := Lib.hid (Hok.out rfl); have HP := Lib.hid (Hpl.out rfl); have HB := Lib.hid (Hpb.out rfl); have HK := HK0; clear Hok Hpl Hpb
  have Har2 := Har; clear Har
  have Har : Hid (pgrOk ss ps fz off b l q t sq at_ lg dt = true → (arS ss ps l lg dt).size = 64) := Lib.hid (fun _ => Har2.out rfl)
  clear Har2
  have l8 := (sup_b HQ.out.1).2.2.1
  have l64 := (sup_b HQ.out.1).2.2.2.1
  have hdd := @dtB_iff b l k n HB.out.2.2.2.1 HB.out.1
  have C2 := Lib.hid (hasRun_any (b := b) (l := l) (q := q) (t := t) k n w1 HQ.out.1 In.out)
  have HF2 : Hid (dtB b l k n = false → (rlR ss ps b l lg dt k n) = false ∧ (rlK ss ps b l lg dt k n) = 2) := Lib.hid (fun h => by unfold rlR rlK; rw [h]; exact ⟨rfl, rfl⟩)
  generalize hyy : dtB b l k n = y at *
  have c4 : w1.cell? ⟨w.heap.size, 4, none⟩ = some (.int .i64 b) := by rw [cell_of_row _ _ _ _ _ _ R1.out]; rfl
  have c5 : w1.cell? ⟨w.heap.size, 5, none⟩ = some (.int .i64 l) := by rw [cell_of_row _ _ _ _ _ _ R1.out]; rfl
  have c6 : w1.cell? ⟨w.heap.size, 6, none⟩ = some (.int .i64 q) := by rw [cell_of_row _ _ _ _ _ _ R1.out]; rfl
  have c7 : w1.cell? ⟨w.heap.size, 7, none⟩ = some (.int .i64 t) := by rw [cell_of_row _ _ _ _ _ _ R1.out]; rfl
  go_wp2_with fail
  clear c4 c5 c6 c7
  refine C2.out.mono ?_
  rintro e w2 ⟨rfl, g⟩
  have B2 := Lib.hid (B1.out.trans (g.mono B1.out.size))
  have R2 := Lib.hid ((g.block _ (by have := Z1.out; omega)).trans R1.out)
  have Q2 := Lib.hid ((g.block _ (by have := Z1.out; omega)).trans Q1.out)
  have Z2 : Hid (w.heap.size + 2 ≤ w2.heap.size) := Lib.hid (by have := Z1.out; have := g.size; omega)
  clear g
  cases y
  · have hf2 := HF2.out rfl
    go_wp2_with (refine wpList_store_row rfl 38 (.tmp 6) (.tmp 20) rfl (w.heap.size + 1) #[.slice none 0 0, .slice none 0 0, .int .i64 0, .bool false, .int .i64 0, .int .i64 0, .int .i64 0, .int .i64 0, .int .i64 0, .int .i64 0, .slice none 0 0, .slice none 0 0] rfl rfl 38 _ Q2.out infoP rfl (onePv ..) ?_)
    refine bodyPost_ret (v := .tuple #[.agg #[.slice none 0 0, .slice none 0 0, .int .i64 0, .bool false, .int .i64 0, .int .i64 0, .int .i64 0, .int .i64 0, .int .i64 0, .int .i64 0, .slice none 0 0, .slice none 0 0], .int .i64 2]) ?_ rfl ?_
    · exact results_cell_row2 rfl _ _ (w.heap.size + 1) 38 _ (0, 0) _ _ rfl rfl (setRow_heap _ _ _ _ _ _ Q2.out) Tryz.underlying38 rfl (by kernel_rfl)
    · rw [HC.out, hf2.2]; exact AnsP.zero (mk := mkC 2) (by rw [HO.out, hf2.1]; rfl) (by omega) (by have := Z2.out; omega) B2.out
  have hd2 := hdd.1 rfl
  have hbb := HB.out
  have hxr : 0 ≤ k ∧ 0 ≤ n ∧ k + n ≤ 256 ∧ 3 + l ≤ k ∧ k + n ≤ b := by omega
  clear hdd hd2 HF2 hbb
  obtain ⟨hxa, hxb, hxc, hxd, hxe⟩ := hxr
  go_wp2_with (refine wpList_load_row rfl 38 (.tmp 3) rfl _ rfl 38 _ (0, 0) _ R2.out Tryz.underlying38 rfl (by kernel_rfl) ?_)
  refine (spaceOfR_any (H0.out.at (Nat.le_refl _) B2.out) (H1.out.at (Nat.le_refl _) B2.out) (H10.out.at (Nat.le_refl _) B2.out) (H11.out.at (Nat.le_refl _) B2.out) (Nat.le_refl _) HK.out).mono ?_
  rintro e w3 ⟨g, cap, rfl, hc1, hc2, hg1, hg2, hby, gg⟩
  have HY0 := Lib.hid hby; have Gb := Lib.hid (And.intro hg1 hg2); clear hby hg1 hg2 hc1 hc2
  have B3 := Lib.hid (B2.out.trans (gg.mono B2.out.size))
  have R3 := Lib.hid ((gg.block _ (by have := Z2.out; omega)).trans R2.out)
  have Q3 := Lib.hid ((gg.block _ (by have := Z2.out; omega)).trans Q2.out)
  have Z3 : Hid (w.heap.size + 2 ≤ w3.heap.size) := Lib.hid (by have := Z2.out; have := gg.size; omega)
  clear gg
  have HZa := Lib.hid (Har.out HK.out)
  obtain ⟨a, rfl⟩ : ∃ a : Nat, k = (a : Int) := ⟨k.toNat, by omega⟩
  obtain ⟨m, rfl⟩ : ∃ m : Nat, n = (m : Int) := ⟨n.toNat, by omega⟩
  have HR2 : Hid (rlR ss ps b l lg dt a m = (allB (arS ss ps l lg dt) a m && ftOk l ((mg dt [(2 + l, rmN (arS ss ps l lg dt) a m)]).length : Int))) := Lib.hid (by unfold rlR rlA; rw [hyy, Int.toNat_natCast, Int.toNat_natCast]; rfl)
  have HK2 : Hid (rlK ss ps b l lg dt a m = if allB (arS ss ps l lg dt) a m then wrC (ftOk l ((mg dt [(2 + l, rmN (arS ss ps l lg dt) a m)]).length : Int)) else 6) := Lib.hid (by unfold rlK rlA; rw [hyy, Int.toNat_natCast, Int.toNat_natCast]; rfl)
  have HM2 : Hid (rlA ss ps l lg dt a m = rmN (arS ss ps l lg dt) a m) := Lib.hid (by unfold rlA; rw [Int.toNat_natCast, Int.toNat_natCast])
  clear hyy
  generalize rlR ss ps b l lg dt a m = RR at *
  generalize rlK ss ps b l lg dt a m = KK at *
  generalize rlA ss ps l lg dt a m = ar9 at *
  generalize arS ss ps l lg dt = ar at *
  have HS0 := Lib.hid (HY0.out)
  have Bs : Hid (Below w3.heap.size w3 (w3.alloc (.cells #[.int .i64 b, .int .i64 l, .int .i64 q, .int .i64 t, .slice (some ⟨g, 0, none⟩) 64 cap, .slice (some ⟨g, 4, none⟩) 32 32] 91))) := Lib.hid ((Below.refl _ _).alloc (Nat.le_refl _) _)
  have Rs0 : Hid ((w3.alloc (.cells #[.int .i64 b, .int .i64 l, .int .i64 q, .int .i64 t, .slice (some ⟨g, 0, none⟩) 64 cap, .slice (some ⟨g, 4, none⟩) 32 32] 91)).heap[w3.heap.size]? = some (.cells #[.int .i64 b, .int .i64 l, .int .i64 q, .int .i64 t, .slice (some ⟨g, 0, none⟩) 64 cap, .slice (some ⟨g, 4, none⟩) 32 32] 91 (0, 0))) := Lib.hid (heap_alloc_new w3 _)
  have Ls0 : Hid (w3.heap.size < (w3.alloc (.cells #[.int .i64 b, .int .i64 l, .int .i64 q, .int .i64 t, .slice (some ⟨g, 0, none⟩) 64 cap, .slice (some ⟨g, 4, none⟩) 32 32] 91)).heap.size) := Lib.hid (by simp)
  have HY1 := Lib.hid (HY0.out.bel Bs.out)
  have R4 := Lib.hid ((Bs.out.block _ (by have := Z3.out; omega)).trans R3.out)
  have Q4 := Lib.hid ((Bs.out.block _ (by have := Z3.out; omega)).trans Q3.out)
  have B4 := Lib.hid (B3.out.trans (Bs.out.mono B3.out.size))
  have Z4 : Hid (w.heap.size + 2 ≤ (w3.alloc (.cells #[.int .i64 b, .int .i64 l, .int .i64 q, .int .i64 t, .slice (some ⟨g, 0, none⟩) 64 cap, .slice (some ⟨g, 4, none⟩) 32 32] 91)).heap.size) := Lib.hid (by have := Z3.out; have := Ls0.out; omega)
  have Ls2 : Hid (w.heap.size + 2 ≤ w3.heap.size) := Z3
  have HZA : Hid (∀ j, (rmN ar a j).size = 64) := Lib.hid (fun j => (rmN_size ar a j).trans HZa.out)
  go_wp2_with fail
  generalize (w3.alloc (.cells #[.int .i64 b, .int .i64 l, .int .i64 q, .int .i64 t, .slice (some ⟨g, 0, none⟩) 64 cap, .slice (some ⟨g, 4, none⟩) 32 32] 91)) = w4 at *
  go_loopw [9] (fun iv wr => ∃ j : Nat, j ≤ m ∧ iv = .int .i64 ((a + j : Nat) : Int) ∧ allB ar a j = true ∧ ByR wr g (rmN ar a j) ∧ w4.grownBy wr (some g)) (fun iv _ => a + m - (intOf iv).toNat)
  case atStart => exact ⟨0, Nat.zero_le _, rfl, rfl, HY1.out, World.grownBy.refl w4 (some g)⟩
  case round =>
    obtain ⟨j, hj, rfl, hal, hyj, hgr⟩ := hrel
    obtain ⟨w5, rfl⟩ : ∃ x, x = wr := ⟨_, rfl⟩
    have HL := Lib.hid hal; have HYj := Lib.hid hyj; have G5 := Lib.hid hgr; clear hal hyj hgr
    have Rs := Lib.hid (grown_blk G5.out Ls0.out (by have := Gb.out; omega) Rs0.out)
    have Ls : Hid (w3.heap.size < w5.heap.size) := Lib.hid (by have := Ls0.out; have := G5.out.size; omega)
    have R5 := Lib.hid (grown_blk G5.out (by have := Z4.out; omega) (by have := Gb.out; have := Z2.out; omega) R4.out)
    have Q5 := Lib.hid (grown_blk G5.out (by have := Z4.out; omega) (by have := Gb.out; have := Z2.out; omega) Q4.out)
    have B5 : Hid (Below w.heap.size w w5) := Lib.hid (B4.out.grown G5.out B4.out.size (fun j hj => by cases hj; have := Gb.out; have := Z2.out; omega))
    have Z5 : Hid (w.heap.size + 2 ≤ w5.heap.size) := Lib.hid (by have := Z4.out; have := G5.out.size; omega)
    by_cases hlt : j < m
    · have hm : a + j < 256 := by omega
      have d1 : decide (((a + j : Nat) : Int) < (a : Int) + (m : Int)) = true := decide_eq_true (by omega)
      have Gz : Hid (g < w5.heap.size) := Lib.hid (by have := Gb.out; have := Ls.out; omega)
      have CT := Lib.hid (isTaken_any (cap := cap) (k := ((a + j : Nat) : Int)) HQ.out.1 (by unfold InI; omega) (HZA.out j) Gz.out HYj.out.a)
      have hdt : dtB b l ((a + j : Nat) : Int) 1 = true := (dtB_iff HB.out.2.2.2.1 l8).2 (by omega)
      rw [hdt, Int.toNat_natCast, rmN_bit ar a j (a + j) HZa.out (by omega) hm (Nat.le_refl _), Bool.true_and] at CT
      have HN : Hid (((a + j : Nat) : Int) + 1 = ((a + (j + 1) : Nat) : Int)) := Lib.hid (by omega)
      have HM : Hid (a + m - (a + (j + 1)) < a + m - (a + j)) := Lib.hid (by omega)
      have HJ : Hid (j + 1 ≤ m) := Lib.hid hlt
      have HF : Hid (aB ar (a + j) = false → allB ar a m = false) := Lib.hid (fun h => allB_no h hlt)
      have HT : Hid (aB ar (a + j) = true → allB ar a (j + 1) = true) := Lib.hid (fun h => allB_succ HL.out h)
      have CR : Hid (∀ W, ByR W g (rmN ar a j) → _) := Lib.hid (fun W (hW : ByR W g (rmN ar a j)) => releaseB_any (cap := cap) (b := b) (l := l) (q := q) (t := t) (HZA.out j) hm hW)
      have HNx : Hid (rm (rmN ar a j) (a + j) = rmN ar a (j + 1)) := Lib.hid rfl
      rw [HNx.out] at CR
      clear hdt HNx
      generalize aB ar (a + j) = y at *
      generalize hmm : a + j = x at *
      have HMM := Lib.hid hmm; clear hmm
      go_wp2_with (refine wpList_load_row rfl 91 (.tmp 8) rfl _ rfl 91 _ (0, 0) _ Rs.out Tryz.underlying91 rfl (by kernel_rfl) ?_)
      refine CT.out.mono ?_
      rintro e w6 ⟨rfl, g6⟩
      have Rs6 := Lib.hid ((g6.block _ Ls.out).trans Rs.out)
      have HY6 := Lib.hid (HYj.out.bel g6)
      have G6 := Lib.hid (G5.out.trans (Lib.grownBy_below (World.grownBy.refl w5 (some g)) g6))
      have B6 := Lib.hid (B5.out.trans (g6.mono B5.out.size))
      have R6 := Lib.hid ((g6.block _ (by have := Z5.out; omega)).trans R5.out)
      have Q6 := Lib.hid ((g6.block _ (by have := Z5.out; omega)).trans Q5.out)
      have Z6 : Hid (w.heap.size + 2 ≤ w6.heap.size) := Lib.hid (by have := Z5.out; have := g6.size; omega)
      clear g6
      cases y
      · skip
        go_wp2_with (refine wpList_store_row rfl 38 (.tmp 6) (.tmp 35) rfl (w.heap.size + 1) #[.slice none 0 0, .slice none 0 0, .int .i64 0, .bool false, .int .i64 0, .int .i64 0, .int .i64 0, .int .i64 0, .int .i64 0, .int .i64 0, .slice none 0 0, .slice none 0 0] rfl rfl 38 _ Q6.out infoP rfl (onePv ..) ?_)
        refine bodyPost_ret (v := .tuple #[.agg #[.slice none 0 0, .slice none 0 0, .int .i64 0, .bool false, .int .i64 0, .int .i64 0, .int .i64 0, .int .i64 0, .int .i64 0, .int .i64 0, .slice none 0 0, .slice none 0 0], .int .i64 6]) ?_ rfl ?_
        · exact results_cell_row2 rfl _ _ (w.heap.size + 1) 38 _ (0, 0) _ _ rfl rfl (setRow_heap _ _ _ _ _ _ Q6.out) Tryz.underlying38 rfl (by kernel_rfl)
        · have hf := HF.out (by trivial)
          rw [hf] at HR2 HK2
          rw [HC.out, HK2.out]; exact AnsP.zero (mk := mkC 6) (by rw [HO.out, HR2.out]; rfl) (by omega) (by have := Z6.out; omega) B6.out
      · go_wp2_with (refine wpList_load_row rfl 91 (.tmp 8) rfl _ rfl 91 _ (0, 0) _ Rs6.out Tryz.underlying91 rfl (by kernel_rfl) ?_)
        refine (CR.out _ HY6.out).mono ?_
        rintro e w7 ⟨rfl, hy7, g7⟩
        have HY7 := Lib.hid hy7; have G7 := Lib.hid (G6.out.trans g7); clear hy7 g7
        go_wp2_with fail
        go_roundw
        case rel =>
          exact ⟨j + 1, HJ.out, by rw [HN.out], HT.out (by trivial), HY7.out, G7.out⟩
        case measure =>
          have := HM.out; have := HMM.out; simp [intOf]; omega
    · obtain rfl : j = m := by omega
      have d1 : decide (((a + j : Nat) : Int) < (a : Int) + (j : Int)) = false := decide_eq_false (by omega)
      rw [HL.out] at HR2 HK2
      have HZ2 := Lib.hid (HZA.out j)
      generalize hrt : rmN ar a j = ar2 at *
      have HY := HYj
      have HR3 : Hid (RR = ftOk l ((mg dt [(2 + l, ar2)]).length : Int)) := Lib.hid (by rw [HR2.out]; rfl)
      have HK3 : Hid (KK = wrC (ftOk l ((mg dt [(2 + l, ar2)]).length : Int))) := Lib.hid (by rw [HK2.out]; rfl)
      have HM3 : Hid (ar9 = ar2) := Lib.hid HM2.out
      clear HR2 HK2 HM2 hrt Rs0 HY1 HYj HL G5 HZA
      have HSx : Hid (∀ W, Below w5.heap.size w5 W → W.cell? ⟨w.heap.size, 0, none⟩ = some (.slice A0 ss.length ss.length) ∧ W.cell? ⟨w.heap.size, 1, none⟩ = some (.slice A1 ps.length ps.length) ∧ W.cell? ⟨w.heap.size, 2, none⟩ = some (.int .i64 fz) ∧ W.cell? ⟨w.heap.size, 3, none⟩ = some (.bool off) ∧ W.cell? ⟨w.heap.size, 4, none⟩ = some (.int .i64 b) ∧ W.cell? ⟨w.heap.size, 5, none⟩ = some (.int .i64 l) ∧ W.cell? ⟨w.heap.size, 6, none⟩ = some (.int .i64 q) ∧ W.cell? ⟨w.heap.size, 7, none⟩ = some (.int .i64 t) ∧ W.cell? ⟨w.heap.size, 8, none⟩ = some (.int .i64 sq) ∧ W.cell? ⟨w.heap.size, 9, none⟩ = some (.int .i64 at_) ∧ W.cell? ⟨w.heap.size, 10, none⟩ = some (.slice A10 lg.length lg.length) ∧ W.cell? ⟨w.heap.size, 11, none⟩ = some (.slice A11 dt.length dt.length) ∧ W.cell? ⟨w3.heap.size, 0, none⟩ = some (.int .i64 b) ∧ W.cell? ⟨w3.heap.size, 1, none⟩ = some (.int .i64 l) ∧ W.cell? ⟨w3.heap.size, 2, none⟩ = some (.int .i64 q) ∧ W.cell? ⟨w3.heap.size, 3, none⟩ = some (.int .i64 t) ∧ W.cell? ⟨w3.heap.size, 4, none⟩ = some (.slice (some ⟨g, 0, none⟩) 64 cap) ∧ W.cell? ⟨w3.heap.size, 5, none⟩ = some (.slice (some ⟨g, 4, none⟩) 32 32)) := Lib.hid (fun W hW => by
        have r1 := (hW.block _ (by have := Z5.out; omega)).trans R5.out
        have r2 := (hW.block _ Ls.out).trans Rs.out
        exact ⟨by rw [cell_of_row _ _ _ _ _ _ r1]; rfl, by rw [cell_of_row _ _ _ _ _ _ r1]; rfl, by rw [cell_of_row _ _ _ _ _ _ r1]; rfl, by rw [cell_of_row _ _ _ _ _ _ r1]; rfl, by rw [cell_of_row _ _ _ _ _ _ r1]; rfl, by rw [cell_of_row _ _ _ _ _ _ r1]; rfl, by rw [cell_of_row _ _ _ _ _ _ r1]; rfl, by rw [cell_of_row _ _ _ _ _ _ r1]; rfl, by rw [cell_of_row _ _ _ _ _ _ r1]; rfl, by rw [cell_of_row _ _ _ _ _ _ r1]; rfl, by rw [cell_of_row _ _ _ _ _ _ r1]; rfl, by rw [cell_of_row _ _ _ _ _ _ r1]; rfl, by rw [cell_of_row _ _ _ _ _ _ r2]; rfl, by rw [cell_of_row _ _ _ _ _ _ r2]; rfl, by rw [cell_of_row _ _ _ _ _ _ r2]; rfl, by rw [cell_of_row _ _ _ _ _ _ r2]; rfl, by rw [cell_of_row _ _ _ _ _ _ r2]; rfl, by rw [cell_of_row _ _ _ _ _ _ r2]; rfl⟩)
      have HD : Hid (Below w5.heap.size w5 w5.drew) := Lib.hid (Below.refl _ _).drew
      have CP : Hid (∀ W, Below w5.heap.size w5 W → _) := Lib.hid (fun W (hW : Below w5.heap.size w5 W) => areaPage_any (cap := cap) (w := W) (b := b) (l := l) (q := q) (t := t) HQ.out.1 HZ2.out (HY.out.bel hW))
      go_wp2
      refine wp_region_held_drew (S := fun W => W.cell? ⟨w.heap.size, 0, none⟩ = some (.slice A0 ss.length ss.length) ∧ W.cell? ⟨w.heap.size, 1, none⟩ = some (.slice A1 ps.length ps.length) ∧ W.cell? ⟨w.heap.size, 2, none⟩ = some (.int .i64 fz) ∧ W.cell? ⟨w.heap.size, 3, none⟩ = some (.bool off) ∧ W.cell? ⟨w.heap.size, 4, none⟩ = some (.int .i64 b) ∧ W.cell? ⟨w.heap.size, 5, none⟩ = some (.int .i64 l) ∧ W.cell? ⟨w.heap.size, 6, none⟩ = some (.int .i64 q) ∧ W.cell? ⟨w.heap.size, 7, none⟩ = some (.int .i64 t) ∧ W.cell? ⟨w.heap.size, 8, none⟩ = some (.int .i64 sq) ∧ W.cell? ⟨w.heap.size, 9, none⟩ = some (.int .i64 at_) ∧ W.cell? ⟨w.heap.size, 10, none⟩ = some (.slice A10 lg.length lg.length) ∧ W.cell? ⟨w.heap.size, 11, none⟩ = some (.slice A11 dt.length dt.length) ∧ W.cell? ⟨w3.heap.size, 0, none⟩ = some (.int .i64 b) ∧ W.cell? ⟨w3.heap.size, 1, none⟩ = some (.int .i64 l) ∧ W.cell? ⟨w3.heap.size, 2, none⟩ = some (.int .i64 q) ∧ W.cell? ⟨w3.heap.size, 3, none⟩ = some (.int .i64 t) ∧ W.cell? ⟨w3.heap.size, 4, none⟩ = some (.slice (some ⟨g, 0, none⟩) 64 cap) ∧ W.cell? ⟨w3.heap.size, 5, none⟩ = some (.slice (some ⟨g, 4, none⟩) 32 32)) (by kernel_rfl) (HSx.out _ HD.out) (fun hHeld => ?_)
      refine held_yes 0 (some 39) rfl rfl (by kernel_rfl) (by kernel_rfl) (by kernel_rfl) (fun _ _ _ h => h) (by kernel_rfl) hHeld (v := ?_) (fun wz hSw => ?_) ?_
      rotate_left 1
      · (try dsimp only at hSw); go_simp; (try with_reducible rfl)
      try simp only [Act.put, List.setIfInBounds_toArray, List.set_cons_zero, List.set_cons_succ]
      refine held_yes 1 (some 40) rfl rfl (by kernel_rfl) (by kernel_rfl) (by kernel_rfl) (fun _ _ _ h => h) (by kernel_rfl) hHeld (v := ?_) (fun wz hSw => ?_) ?_
      rotate_left 1
      · (try dsimp only at hSw); go_simp; (try with_reducible rfl)
      try simp only [Act.put, List.setIfInBounds_toArray, List.set_cons_zero, List.set_cons_succ]
      refine wpAnyH_ready (rs := [2]) (by kernel_rfl) (by simp) ?_
      refine AllReadyH.cons rfl (fun K hK => ?_) AllReadyH.nil
      go_simp
      go_at_call 61
      go_fit (CP.out _ HD.out)
      rintro e u1 ⟨rfl, g1⟩
      have K1 := Lib.hid (HD.out.trans (g1.mono HD.out.size))
      clear g1
      refine hK.out _ _ (HSx.out _ K1.out) (fun hHeld => ?_)
      clear hK K
      try simp only [Act.put, List.setIfInBounds_toArray, List.set_cons_zero, List.set_cons_succ]
      refine wpAnyH_ready (rs := [3]) (by kernel_rfl) (by simp) ?_
      refine AllReadyH.cons rfl (fun K hK => ?_) AllReadyH.nil
      go_simp
      have K2 : Hid (Below w5.heap.size w5 (u1.alloc (.cells #[.int .i64 (2 + l), .string ar2] 77))) := Lib.hid (K1.out.alloc K1.out.size _)
      refine hK.out _ _ (HSx.out _ K2.out) (fun hHeld => ?_)
      clear hK K
      try simp only [Act.put, List.setIfInBounds_toArray, List.set_cons_zero, List.set_cons_succ]
      have Bp := Lib.hid (B5.out.trans (K2.out.mono B5.out.size))
      have Rp : Hid (RiU (u1.alloc (.cells #[.int .i64 (2 + l), .string ar2] 77)).heap.size (u1.alloc (.cells #[.int .i64 (2 + l), .string ar2] 77)) (.slice (some ⟨u1.heap.size, 0, none⟩) 1 1) [(2 + l, ar2)]) := Lib.hid (onePage u1 (by unfold InI; omega) (by rw [HZ2.out]; decide))
      have C3 := Lib.hid (changed_any (fz := fz) (off := off) (b := b) (l := l) (q := q) (t := t) (sq := sq) (at_ := at_) (H0.out.at (Nat.le_refl _) Bp.out) (H1.out.at (Nat.le_refl _) Bp.out) (H10.out.at (Nat.le_refl _) Bp.out) (H11.out.at (Nat.le_refl _) Bp.out) Rp.out (Nat.le_refl _) z0 z1 (by have := HP.out.1; omega) (by have := HP.out.2.1; omega) (by simp) (srt_of_pg HP.out.2.2.1) l8)
      rw [mgs_one] at C3
      clear Rp
      generalize hr : ftOk l ((mg dt [(2 + l, ar2)]).length : Int) = r at *
      have Hr := Lib.hid hr; clear hr
      generalize hc : (if r = true then (0 : Int) else 5) = c at *
      have Hc := Lib.hid hc; clear hc
      generalize (u1.alloc (.cells #[.int .i64 (2 + l), .string ar2] 77)) = u2 at *
      refine wpAnyH_ready (rs := [4]) (by kernel_rfl) (by simp) ?_
      refine AllReadyH.cons rfl (fun K hK => ?_) AllReadyH.nil
      go_simp
      go_at_call 46
      go_fit C3.out
      rintro e u3 ⟨X0, X1, X10, X11, x0, x1, x10, x11, rfl, pg, g3⟩
      simp only [mkC]
      have Pg := Lib.hid pg
      have K3 := Lib.hid (K2.out.trans (g3.mono K2.out.size))
      have Z3x : Hid (u2.heap.size ≤ u3.heap.size) := Lib.hid g3.size
      clear pg g3
      refine hK.out _ _ (HSx.out _ K3.out) (fun hHeld => ?_)
      clear hK K
      try simp only [Act.put, List.setIfInBounds_toArray, List.set_cons_zero, List.set_cons_succ]
      refine held_yes 5 (some 44) rfl rfl (by kernel_rfl) (by kernel_rfl) (by kernel_rfl) (fun _ _ _ h => h) (by kernel_rfl) hHeld (v := ?_) (fun wz hSw => ?_) ?_
      rotate_left 1
      · (try dsimp only at hSw); go_simp; (try with_reducible rfl)
      try simp only [Act.put, List.setIfInBounds_toArray, List.set_cons_zero, List.set_cons_succ]
      refine held_yes 6 (some 45) rfl rfl (by kernel_rfl) (by kernel_rfl) (by kernel_rfl) (fun _ _ _ h => h) (by kernel_rfl) hHeld (v := ?_) (fun wz hSw => ?_) ?_
      rotate_left 1
      · (try dsimp only at hSw); go_simp; (try with_reducible rfl)
      try simp only [Act.put, List.setIfInBounds_toArray, List.set_cons_zero, List.set_cons_succ]
      refine wpAnyH_ready (rs := [7]) (by kernel_rfl) (by simp) ?_
      refine AllReadyH.cons rfl (fun K hK => ?_) AllReadyH.nil
      have Qu : Hid (u3.heap[w.heap.size + 1]? = some (.cells #[.slice none 0 0, .slice none 0 0, .int .i64 0, .bool false, .int .i64 0, .int .i64 0, .int .i64 0, .int .i64 0, .int .i64 0, .int .i64 0, .slice none 0 0, .slice none 0 0] 38 (0, 0))) := Lib.hid ((K3.out.block _ (by have := Z5.out; omega)).trans Q5.out)
      refine wp_store_rowd none (by kernel_rfl) rfl 38 (.tmp 6) (.tmp 44) rfl (w.heap.size + 1) #[.slice X0 (sT r ss).length x0, .slice X1 (sT r ps).length x1, .int .i64 (sI r fz), .bool (sB r off), .int .i64 (sI r b), .int .i64 (sI r l), .int .i64 (sI r q), .int .i64 (sI r t), .int .i64 (sI r sq), .int .i64 (sI r at_), .slice X10 (sT r lg).length x10, .slice X11 (sT r (mg dt [(2 + l, ar2)])).length x11] rfl rfl 38 _ Qu.out infoP rfl (onePv ..) ?_
      refine hK.out _ _ ((by
            have r1 := (setRow_other u3 (w.heap.size + 1) w.heap.size #[.slice X0 (sT r ss).length x0, .slice X1 (sT r ps).length x1, .int .i64 (sI r fz), .bool (sB r off), .int .i64 (sI r b), .int .i64 (sI r l), .int .i64 (sI r q), .int .i64 (sI r t), .int .i64 (sI r sq), .int .i64 (sI r at_), .slice X10 (sT r lg).length x10, .slice X11 (sT r (mg dt [(2 + l, ar2)])).length x11] (by omega)).trans ((K3.out.block _ (by have := Z5.out; omega)).trans R5.out)
            have r2 := (setRow_other u3 (w.heap.size + 1) (w3.heap.size) #[.slice X0 (sT r ss).length x0, .slice X1 (sT r ps).length x1, .int .i64 (sI r fz), .bool (sB r off), .int .i64 (sI r b), .int .i64 (sI r l), .int .i64 (sI r q), .int .i64 (sI r t), .int .i64 (sI r sq), .int .i64 (sI r at_), .slice X10 (sT r lg).length x10, .slice X11 (sT r (mg dt [(2 + l, ar2)])).length x11] (by have := Ls2.out; omega)).trans ((K3.out.block _ Ls.out).trans Rs.out)
            exact ⟨by rw [cell_of_row _ _ _ _ _ _ r1]; rfl, by rw [cell_of_row _ _ _ _ _ _ r1]; rfl, by rw [cell_of_row _ _ _ _ _ _ r1]; rfl, by rw [cell_of_row _ _ _ _ _ _ r1]; rfl, by rw [cell_of_row _ _ _ _ _ _ r1]; rfl, by rw [cell_of_row _ _ _ _ _ _ r1]; rfl, by rw [cell_of_row _ _ _ _ _ _ r1]; rfl, by rw [cell_of_row _ _ _ _ _ _ r1]; rfl, by rw [cell_of_row _ _ _ _ _ _ r1]; rfl, by rw [cell_of_row _ _ _ _ _ _ r1]; rfl, by rw [cell_of_row _ _ _ _ _ _ r1]; rfl, by rw [cell_of_row _ _ _ _ _ _ r1]; rfl, by rw [cell_of_row _ _ _ _ _ _ r2]; rfl, by rw [cell_of_row _ _ _ _ _ _ r2]; rfl, by rw [cell_of_row _ _ _ _ _ _ r2]; rfl, by rw [cell_of_row _ _ _ _ _ _ r2]; rfl, by rw [cell_of_row _ _ _ _ _ _ r2]; rfl, by rw [cell_of_row _ _ _ _ _ _ r2]; rfl⟩)) (fun hHeld => ?_)
      clear hK K
      try simp only [Act.put]
      refine held_yes 8 (some 7) rfl rfl (by kernel_rfl) (by kernel_rfl) (by kernel_rfl) (fun _ _ _ h => h) (by kernel_rfl) hHeld (v := ?_) (fun wz hSw => ?_) ?_
      rotate_left 1
      · (try dsimp only at hSw); go_simp; (try with_reducible rfl)
      try simp only [Act.put, List.setIfInBounds_toArray, List.set_cons_zero, List.set_cons_succ]
      refine wpAnyH_done (by kernel_rfl) ?_ _
      have Rf : Hid ((u3.setRow (w.heap.size + 1) #[.slice X0 (sT r ss).length x0, .slice X1 (sT r ps).length x1, .int .i64 (sI r fz), .bool (sB r off), .int .i64 (sI r b), .int .i64 (sI r l), .int .i64 (sI r q), .int .i64 (sI r t), .int .i64 (sI r sq), .int .i64 (sI r at_), .slice X10 (sT r lg).length x10, .slice X11 (sT r (mg dt [(2 + l, ar2)])).length x11]).heap[w.heap.size + 1]? = some (.cells #[.slice X0 (sT r ss).length x0, .slice X1 (sT r ps).length x1, .int .i64 (sI r fz), .bool (sB r off), .int .i64 (sI r b), .int .i64 (sI r l), .int .i64 (sI r q), .int .i64 (sI r t), .int .i64 (sI r sq), .int .i64 (sI r at_), .slice X10 (sT r lg).length x10, .slice X11 (sT r (mg dt [(2 + l, ar2)])).length x11] 38 (0, 0))) := Lib.hid (setRow_heap _ _ _ _ _ _ Qu.out)
      have Fin := Lib.hid (AnsP.end (mk := mkC c) (fz := sI r fz) (off := sB r off) (b := sI r b) (l := sI r l) (q := sI r q) (t := sI r t) (sq := sI r sq) (at_ := sI r at_) (lo := u2.heap.size) (w := w) (r := w.heap.size + 1) (cs := #[.slice X0 (sT r ss).length x0, .slice X1 (sT r ps).length x1, .int .i64 (sI r fz), .bool (sB r off), .int .i64 (sI r b), .int .i64 (sI r l), .int .i64 (sI r q), .int .i64 (sI r t), .int .i64 (sI r sq), .int .i64 (sI r at_), .slice X10 (sT r lg).length x10, .slice X11 (sT r (mg dt [(2 + l, ar2)])).length x11]) Pg.out (by have := Z5.out; have := K2.out.size; omega) (by omega) (B5.out.trans (K3.out.mono B5.out.size)))
      try simp only [Exit.then]
      generalize (u3.setRow (w.heap.size + 1) #[.slice X0 (sT r ss).length x0, .slice X1 (sT r ps).length x1, .int .i64 (sI r fz), .bool (sB r off), .int .i64 (sI r b), .int .i64 (sI r l), .int .i64 (sI r q), .int .i64 (sI r t), .int .i64 (sI r sq), .int .i64 (sI r at_), .slice X10 (sT r lg).length x10, .slice X11 (sT r (mg dt [(2 + l, ar2)])).length x11]) = xf at *
      go_wp2
      refine bodyPost_ret (v := .tuple #[.agg #[.slice X0 (sT r ss).length x0, .slice X1 (sT r ps).length x1, .int .i64 (sI r fz), .bool (sB r off), .int .i64 (sI r b), .int .i64 (sI r l), .int .i64 (sI r q), .int .i64 (sI r t), .int .i64 (sI r sq), .int .i64 (sI r at_), .slice X10 (sT r lg).length x10, .slice X11 (sT r (mg dt [(2 + l, ar2)])).length x11], .int .i64 c]) ?_ rfl ?_
      exact results_cell_row2 rfl _ _ (w.heap.size + 1) 38 _ (0, 0) _ _ rfl rfl Rf.out Tryz.underlying38 rfl (by kernel_rfl)
      have eO : O = r := by rw [HO.out, HR3.out]; rfl
      have eC : C = c := by rw [HC.out, HK3.out, ← Hc.out]; rfl
      rw [eO, eC, HM3.out]; exact Fin.out
theorem re_ok {ss : List ByteArray} {ps lg dt : List Pt} {fz b l q t sq at_ k n : Int} {off : Bool} (hO : reO ss ps fz off b l q t sq at_ lg dt k n = true) (hd : ∀ p ∈ dt, InI p.1 ∧ p.2.size ≤ maxLen) (zdt : dt.length ≤ 1048576) :
    (∀ p ∈ (mg dt [(2 + l, rlA ss ps l lg dt k n)]), InI p.1 ∧ p.2.size ≤ maxLen) ∧ (mg dt [(2 + l, rlA ss ps l lg dt k n)]).length ≤ 1300000 := by
  simp only [reO, Bool.and_eq_true] at hO
  have hb := pgrOk_b hO.1
  refine ⟨fun p hp => ?_, by have := mg1_len dt (2 + l) (rlA ss ps l lg dt k n); omega⟩
  rcases mg1_mem hp with h | h
  · rw [h]; exact ⟨by unfold InI; show _ ≤ 2 + l ∧ 2 + l < _; omega, by show (rlA _ _ _ _ _ _ _).size ≤ _; rw [rlA, rmN_size, arS_64 hO.1]; decide⟩
  · exact hd p h

end Go.Proofs.YtplfnlalmcpcaaaGreat
namespace Go.Proofs.YtplfnlalmcpcaaaGreat.fnExactRelease
open Go.ChangeShapes Go.WideShapes Go.ChangeAt Go.RowKit
open Go.ChangeMaps (open_string shut_string)
set_option linter.unusedVariables false
theorem inI_of_wf {k : Int} (hk : (Lit.int .i64 k).wf = true) : InI k := by unfold InI; simp [Lit.wf, IntKind.min, IntKind.max, IntKind.signed, IntKind.bits] at hk; omega
theorem sT_mem {α : Type} {ok : Bool} {xs : List α} {p : α} (h : p ∈ sT ok xs) : p ∈ xs := by cases ok; exact absurd h (by simp [sT]); exact h
theorem sT_len {α : Type} (ok : Bool) (xs : List α) : (sT ok xs).length ≤ xs.length := by cases ok <;> simp [sT]
set_option maxHeartbeats 16000000 in
set_option maxRecDepth 100000 in
theorem walk (w : World) (v0 v1 v10 v11 : Value) (ss : List ByteArray) (ps lg dt : List Pt) (fz : Int) (off : Bool) (b l q t sq at_ : Int) (a1 : Int) (a2 : Int) (h0 : RiT w.heap.size w v0 ss) (h1_ : RiU w.heap.size w v1 ps) (h10 : RiU w.heap.size w v10 lg) (h11 : RiU w.heap.size w v11 dt) (i4 : InI b) (i5 : InI l) (h1 : (Lit.int .i64 a1).wf = true) (h2 : (Lit.int .i64 a2).wf = true) :
    Calls Tryz.prog 6 #[.agg #[v0, v1, .int .i64 fz, .bool off, .int .i64 b, .int .i64 l, .int .i64 q, .int .i64 t, .int .i64 sq, .int .i64 at_, v10, v11], .int .i64 a1, .int .i64 a2] w (GivesB (.bool true) w) := by
  have S0 := Lib.hid (fun (W : World) (X0 X1 X10 X11 : Option Addr) (g0 : RiT W.heap.size W (.slice X0 ss.length ss.length) ss) (g1 : RiU W.heap.size W (.slice X1 ps.length ps.length) ps) (g10 : RiU W.heap.size W (.slice X10 lg.length lg.length) lg) (g11 : RiU W.heap.size W (.slice X11 dt.length dt.length) dt) (z0 : ss.length ≤ 1048576) (z1 : ps.length ≤ 1048576) => specRelease_any (fz := fz) (off := off) (b := b) (l := l) (q := q) (t := t) (sq := sq) (at_ := at_) g0 g1 g10 g11 z0 z1 i4 i5 h1 h2)
  have P0 := Lib.hid (fun (W : World) (X0 X1 X10 X11 : Option Addr) (g0 : RiT W.heap.size W (.slice X0 ss.length ss.length) ss) (g1 : RiU W.heap.size W (.slice X1 ps.length ps.length) ps) (g10 : RiU W.heap.size W (.slice X10 lg.length lg.length) lg) (g11 : RiU W.heap.size W (.slice X11 dt.length dt.length) dt) (z0 : ss.length ≤ 1048576) (z1 : ps.length ≤ 1048576) => implRelease_any (fz := fz) (off := off) (b := b) (l := l) (q := q) (t := t) (sq := sq) (at_ := at_) g0 g1 g10 g11 z0 z1 i4 i5 h1 h2)
  have IDa : Hid (∀ x ∈ ss, x.size ≤ maxLen) := Lib.hid h0.inT
  have IMa := Lib.hid h1_.wf; have IGa := Lib.hid h10.wf; have IHa := Lib.hid h11.wf
  have DOK : Hid ((reO ss ps fz off b l q t sq at_ lg dt a1 a2) = true → dt.length ≤ 1048576 → (∀ p ∈ (mg dt [(2 + l, rlA ss ps l lg dt a1 a2)]), InI p.1 ∧ p.2.size ≤ maxLen) ∧ (mg dt [(2 + l, rlA ss ps l lg dt a1 a2)]).length ≤ 1300000) := Lib.hid (fun hO zdt => re_ok hO h11.wf zdt)
  have ID : Hid (∀ x ∈ sT (reO ss ps fz off b l q t sq at_ lg dt a1 a2) ss, x.size ≤ maxLen) := Lib.hid (fun x hx => IDa.out x (sT_mem hx))
  have IM : Hid (∀ p ∈ sT (reO ss ps fz off b l q t sq at_ lg dt a1 a2) ps, InI p.1 ∧ p.2.size ≤ maxLen) := Lib.hid (fun x hx => IMa.out x (sT_mem hx))
  have IG : Hid (∀ p ∈ sT (reO ss ps fz off b l q t sq at_ lg dt a1 a2) lg, InI p.1 ∧ p.2.size ≤ maxLen) := Lib.hid (fun x hx => IGa.out x (sT_mem hx))
  have IH0 : Hid (dt.length ≤ 1048576 → (∀ p ∈ sT (reO ss ps fz off b l q t sq at_ lg dt a1 a2) (mg dt [(2 + l, rlA ss ps l lg dt a1 a2)]), InI p.1 ∧ p.2.size ≤ maxLen) ∧ (sT (reO ss ps fz off b l q t sq at_ lg dt a1 a2) (mg dt [(2 + l, rlA ss ps l lg dt a1 a2)])).length ≤ 1300000) := Lib.hid (fun zdt => by
    cases hO : (reO ss ps fz off b l q t sq at_ lg dt a1 a2)
    · exact ⟨fun x hx => absurd hx (by simp [sT]), by simp [sT]⟩
    · exact DOK.out hO zdt)
  have LE := Lib.hid (And.intro (sT_len (reO ss ps fz off b l q t sq at_ lg dt a1 a2) ss) (And.intro (sT_len (reO ss ps fz off b l q t sq at_ lg dt a1 a2) ps) (sT_len (reO ss ps fz off b l q t sq at_ lg dt a1 a2) lg)))
  clear DOK
  generalize sT (reO ss ps fz off b l q t sq at_ lg dt a1 a2) ss = D at *
  generalize sT (reO ss ps fz off b l q t sq at_ lg dt a1 a2) ps = M at *
  generalize sT (reO ss ps fz off b l q t sq at_ lg dt a1 a2) lg = G at *
  generalize sT (reO ss ps fz off b l q t sq at_ lg dt a1 a2) (mg dt [(2 + l, rlA ss ps l lg dt a1 a2)]) = H at *
  generalize sI (reO ss ps fz off b l q t sq at_ lg dt a1 a2) fz = fz2 at *
  generalize sB (reO ss ps fz off b l q t sq at_ lg dt a1 a2) off = off2 at *
  generalize sI (reO ss ps fz off b l q t sq at_ lg dt a1 a2) b = b2 at *
  generalize sI (reO ss ps fz off b l q t sq at_ lg dt a1 a2) l = l2 at *
  generalize sI (reO ss ps fz off b l q t sq at_ lg dt a1 a2) q = q2 at *
  generalize sI (reO ss ps fz off b l q t sq at_ lg dt a1 a2) t = t2 at *
  generalize sI (reO ss ps fz off b l q t sq at_ lg dt a1 a2) sq = sq2 at *
  generalize sI (reO ss ps fz off b l q t sq at_ lg dt a1 a2) at_ = at2 at *
  generalize (reK ss ps fz off b l q t sq at_ lg dt a1 a2) = co at *
  have eqc : (co == co) = true := by simp
  have eqa : ∀ x : Int, (x == x) = true := by simp
  have Ha := Lib.hid h0; have Hb := Lib.hid h1_; have Hc := Lib.hid h10; have Hd := Lib.hid h11
  obtain ⟨A0, c0, rfl, -, -, -⟩ := h0
  obtain ⟨A1, c1, rfl, -, -, -⟩ := h1_
  obtain ⟨A10, c10, rfl, -, -, -⟩ := h10
  obtain ⟨A11, c11, rfl, -, -, -⟩ := h11
  have HB0 : Hid (Below w.heap.size w (w.alloc (.cells #[.slice A0 ss.length c0, .slice A1 ps.length c1, .int .i64 fz, .bool off, .int .i64 b, .int .i64 l, .int .i64 q, .int .i64 t, .int .i64 sq, .int .i64 at_, .slice A10 lg.length c10, .slice A11 dt.length c11] 30))) := Lib.hid ((Below.refl _ w).alloc (Nat.le_refl _) _)
  have SZ0 : Hid (w.heap.size + 1 ≤ (w.alloc (.cells #[.slice A0 ss.length c0, .slice A1 ps.length c1, .int .i64 fz, .bool off, .int .i64 b, .int .i64 l, .int .i64 q, .int .i64 t, .int .i64 sq, .int .i64 at_, .slice A10 lg.length c10, .slice A11 dt.length c11] 30)).heap.size) := Lib.hid (by simp)
  have F_0 : Hid ((w.alloc (.cells #[.slice A0 ss.length c0, .slice A1 ps.length c1, .int .i64 fz, .bool off, .int .i64 b, .int .i64 l, .int .i64 q, .int .i64 t, .int .i64 sq, .int .i64 at_, .slice A10 lg.length c10, .slice A11 dt.length c11] 30)).heap[w.heap.size]? = some (.cells #[.slice A0 ss.length c0, .slice A1 ps.length c1, .int .i64 fz, .bool off, .int .i64 b, .int .i64 l, .int .i64 q, .int .i64 t, .int .i64 sq, .int .i64 at_, .slice A10 lg.length c10, .slice A11 dt.length c11] 30 (0, 0))) := Lib.hid (heap_alloc_new w _)
  go_enter Tryz.func6, Tryz.ntmps6
  go_wp2_with (first | (refine wpList_load_row rfl 30 (.tmp 3) rfl _ rfl 30 _ (0, 0) _ F_0.out Tryz.underlying30 rfl (by kernel_rfl) ?_))
  generalize (w.alloc (.cells #[.slice A0 ss.length c0, .slice A1 ps.length c1, .int .i64 fz, .bool off, .int .i64 b, .int .i64 l, .int .i64 q, .int .i64 t, .int .i64 sq, .int .i64 at_, .slice A10 lg.length c10, .slice A11 dt.length c11] 30)) = w0 at *
  refine (szPager_any (Ha.out.at (Nat.le_refl _) HB0.out) (Hb.out.at (Nat.le_refl _) HB0.out) (Hc.out.at (Nat.le_refl _) HB0.out) (Hd.out.at (Nat.le_refl _) HB0.out) (Nat.le_refl _) (1048576) (by omega) (by omega)).mono ?_
  rintro e w1 ⟨l0, rfl, hl0, hL0, hp0, g⟩
  have Pz := Lib.hid hp0; have G1 := Lib.hid g; have SZ1 : Hid (w0.heap.size ≤ w1.heap.size) := Lib.hid g.size; clear hp0 g
  have F_1 : Hid (w1.heap[w.heap.size]? = some (.cells #[.slice A0 ss.length c0, .slice A1 ps.length c1, .int .i64 fz, .bool off, .int .i64 b, .int .i64 l, .int .i64 q, .int .i64 t, .int .i64 sq, .int .i64 at_, .slice A10 lg.length c10, .slice A11 dt.length c11] 30 (0, 0))) := Lib.hid ((G1.out.block _ (by have s0 := SZ0.out; omega)).trans F_0.out)
  have HB1 : Hid (Below w.heap.size w w1) := Lib.hid (HB0.out.trans (G1.out.mono HB0.out.size))
  by_cases neg0 : l0 < 0
  · skip
    go_wp2_with fail
    go_ret
    exact ⟨rfl, HB1.out⟩
  have SM := Lib.hid (Pz.out (by omega))
  have IH1 := Lib.hid (IH0.out SM.out.2.2.1); have IH := Lib.hid IH1.out.1
  have LN : Hid (D.length ≤ 1048576 ∧ M.length ≤ 1048576 ∧ G.length ≤ 1048576 ∧ H.length ≤ 1300000) := Lib.hid (by have h1 := LE.out; have h2 := SM.out.1.1.1; have h3 := SM.out.1.2.1; have h4 := SM.out.2.1.1; have h5 := IH1.out.2; omega)
  go_wp2_with (first | (refine wpList_load_row rfl 30 (.tmp 3) rfl _ rfl 30 _ (0, 0) _ F_1.out Tryz.underlying30 rfl (by kernel_rfl) ?_))
  refine (toPager2_any (Ha.out.at (Nat.le_refl _) HB1.out) (Hb.out.at (Nat.le_refl _) HB1.out) (Hc.out.at (Nat.le_refl _) HB1.out) (Hd.out.at (Nat.le_refl _) HB1.out) (Nat.le_refl _) SM.out).mono ?_
  rintro e w2 ⟨TA0, TA1, TA10, TA11, p1T, p2T, rfl, oa, ob, oc, od, ap, ia, ib, ic, id, r0, r1, r2, g⟩
  have G2 := Lib.hid g; have SZ2 : Hid (w1.heap.size ≤ w2.heap.size) := Lib.hid g.size; clear g
  have F_2 : Hid (w2.heap[w.heap.size]? = some (.cells #[.slice A0 ss.length c0, .slice A1 ps.length c1, .int .i64 fz, .bool off, .int .i64 b, .int .i64 l, .int .i64 q, .int .i64 t, .int .i64 sq, .int .i64 at_, .slice A10 lg.length c10, .slice A11 dt.length c11] 30 (0, 0))) := Lib.hid ((G2.out.block _ (by have s0 := SZ0.out; have s1 := SZ1.out; omega)).trans F_1.out)
  have HB2 : Hid (Below w.heap.size w w2) := Lib.hid (HB1.out.trans (G2.out.mono HB1.out.size))
  have OT0_2 : Hid (OT w2 w1.heap.size (.slice TA0 ss.length ss.length) ss) := Lib.hid oa
  have OT1_2 : Hid (OU w2 w1.heap.size (.slice TA1 ps.length ps.length) ps) := Lib.hid ob
  have OT10_2 : Hid (OG w2 w1.heap.size (.slice TA10 lg.length lg.length) lg) := Lib.hid oc
  have OT11_2 : Hid (OG w2 w1.heap.size (.slice TA11 dt.length dt.length) dt) := Lib.hid od
  have KIT0 := Lib.hid (own_wi OT0_2.out)
  have KIT1 := Lib.hid (own_wi OT1_2.out)
  have KIT10 := Lib.hid (own_wi OT10_2.out)
  have KIT11 := Lib.hid (own_wi OT11_2.out)
  have XT := Lib.hid ap; have IT0 := Lib.hid ia; have IT1 := Lib.hid ib; have IT10 := Lib.hid ic; have IT11 := Lib.hid id; have QT := Lib.hid (And.intro r0 (And.intro r1 r2)); clear oa ob oc od ap ia ib ic id r0 r1 r2
  go_wp2_with (first | (refine wpList_load_row rfl 30 (.tmp 3) rfl _ rfl 30 _ (0, 0) _ F_2.out Tryz.underlying30 rfl (by kernel_rfl) ?_))
  refine (S0.out w2 _ _ _ _ (OT0_2.out.rit IDa.out) (OT1_2.out.riu IMa.out) (OT10_2.out.riu IGa.out) (OT11_2.out.riu IHa.out) SM.out.1.1.1 SM.out.1.2.1).mono ?_
  rintro e w3 ⟨ZA0, ZA1, ZA10, ZA11, Zc0, Zc1, Zc10, Zc11, rfl, pg, g⟩
  have G3 := Lib.hid g; have SZ3 : Hid (w2.heap.size ≤ w3.heap.size) := Lib.hid g.size; clear g
  have F_3 : Hid (w3.heap[w.heap.size]? = some (.cells #[.slice A0 ss.length c0, .slice A1 ps.length c1, .int .i64 fz, .bool off, .int .i64 b, .int .i64 l, .int .i64 q, .int .i64 t, .int .i64 sq, .int .i64 at_, .slice A10 lg.length c10, .slice A11 dt.length c11] 30 (0, 0))) := Lib.hid ((G3.out.block _ (by have s0 := SZ0.out; have s1 := SZ1.out; have s2 := SZ2.out; omega)).trans F_2.out)
  have OT0_3 : Hid (OT w3 w1.heap.size (.slice TA0 ss.length ss.length) ss) := Lib.hid (own_bel OT0_2.out G3.out)
  have OT1_3 : Hid (OU w3 w1.heap.size (.slice TA1 ps.length ps.length) ps) := Lib.hid (own_bel OT1_2.out G3.out)
  have OT10_3 : Hid (OG w3 w1.heap.size (.slice TA10 lg.length lg.length) lg) := Lib.hid (own_bel OT10_2.out G3.out)
  have OT11_3 : Hid (OG w3 w1.heap.size (.slice TA11 dt.length dt.length) dt) := Lib.hid (own_bel OT11_2.out G3.out)
  have HB3 : Hid (Below w.heap.size w w3) := Lib.hid (HB2.out.trans (G3.out.mono HB2.out.size))
  simp only [mkC]
  have PGZ := Lib.hid pg; clear pg
  have OZ0_3 : Hid (OT w3 w2.heap.size (.slice ZA0 D.length Zc0) D) := Lib.hid PGZ.out.1
  have OZ1_3 : Hid (OU w3 w2.heap.size (.slice ZA1 M.length Zc1) M) := Lib.hid PGZ.out.2.1
  have OZ10_3 : Hid (OG w3 w2.heap.size (.slice ZA10 G.length Zc10) G) := Lib.hid PGZ.out.2.2.1
  have OZ11_3 : Hid (OG w3 w2.heap.size (.slice ZA11 H.length Zc11) H) := Lib.hid PGZ.out.2.2.2.1
  have KIZ0 := Lib.hid (own_wi OZ0_3.out)
  have KIZ1 := Lib.hid (own_wi OZ1_3.out)
  have KIZ10 := Lib.hid (own_wi OZ10_3.out)
  have KIZ11 := Lib.hid (own_wi OZ11_3.out)
  have G4 : Hid (Below w3.heap.size w3 (w3.alloc (.cells #[.slice ZA0 D.length Zc0, .slice ZA1 M.length Zc1, .int .i64 fz2, .bool off2, .int .i64 b2, .int .i64 l2, .int .i64 q2, .int .i64 t2, .int .i64 sq2, .int .i64 at2, .slice ZA10 G.length Zc10, .slice ZA11 H.length Zc11] 38))) := Lib.hid ((Below.refl _ _).alloc (Nat.le_refl _) _)
  have SZ4 : Hid (w3.heap.size + 1 ≤ (w3.alloc (.cells #[.slice ZA0 D.length Zc0, .slice ZA1 M.length Zc1, .int .i64 fz2, .bool off2, .int .i64 b2, .int .i64 l2, .int .i64 q2, .int .i64 t2, .int .i64 sq2, .int .i64 at2, .slice ZA10 G.length Zc10, .slice ZA11 H.length Zc11] 38)).heap.size) := Lib.hid (by simp)
  have F_4 : Hid ((w3.alloc (.cells #[.slice ZA0 D.length Zc0, .slice ZA1 M.length Zc1, .int .i64 fz2, .bool off2, .int .i64 b2, .int .i64 l2, .int .i64 q2, .int .i64 t2, .int .i64 sq2, .int .i64 at2, .slice ZA10 G.length Zc10, .slice ZA11 H.length Zc11] 38)).heap[w.heap.size]? = some (.cells #[.slice A0 ss.length c0, .slice A1 ps.length c1, .int .i64 fz, .bool off, .int .i64 b, .int .i64 l, .int .i64 q, .int .i64 t, .int .i64 sq, .int .i64 at_, .slice A10 lg.length c10, .slice A11 dt.length c11] 30 (0, 0))) := Lib.hid ((G4.out.block _ (by have s0 := SZ0.out; have s1 := SZ1.out; have s2 := SZ2.out; have s3 := SZ3.out; omega)).trans F_3.out)
  have OZ0_4 : Hid (OT (w3.alloc (.cells #[.slice ZA0 D.length Zc0, .slice ZA1 M.length Zc1, .int .i64 fz2, .bool off2, .int .i64 b2, .int .i64 l2, .int .i64 q2, .int .i64 t2, .int .i64 sq2, .int .i64 at2, .slice ZA10 G.length Zc10, .slice ZA11 H.length Zc11] 38)) w2.heap.size (.slice ZA0 D.length Zc0) D) := Lib.hid (own_bel OZ0_3.out G4.out)
  have OZ1_4 : Hid (OU (w3.alloc (.cells #[.slice ZA0 D.length Zc0, .slice ZA1 M.length Zc1, .int .i64 fz2, .bool off2, .int .i64 b2, .int .i64 l2, .int .i64 q2, .int .i64 t2, .int .i64 sq2, .int .i64 at2, .slice ZA10 G.length Zc10, .slice ZA11 H.length Zc11] 38)) w2.heap.size (.slice ZA1 M.length Zc1) M) := Lib.hid (own_bel OZ1_3.out G4.out)
  have OZ10_4 : Hid (OG (w3.alloc (.cells #[.slice ZA0 D.length Zc0, .slice ZA1 M.length Zc1, .int .i64 fz2, .bool off2, .int .i64 b2, .int .i64 l2, .int .i64 q2, .int .i64 t2, .int .i64 sq2, .int .i64 at2, .slice ZA10 G.length Zc10, .slice ZA11 H.length Zc11] 38)) w2.heap.size (.slice ZA10 G.length Zc10) G) := Lib.hid (own_bel OZ10_3.out G4.out)
  have OZ11_4 : Hid (OG (w3.alloc (.cells #[.slice ZA0 D.length Zc0, .slice ZA1 M.length Zc1, .int .i64 fz2, .bool off2, .int .i64 b2, .int .i64 l2, .int .i64 q2, .int .i64 t2, .int .i64 sq2, .int .i64 at2, .slice ZA10 G.length Zc10, .slice ZA11 H.length Zc11] 38)) w2.heap.size (.slice ZA11 H.length Zc11) H) := Lib.hid (own_bel OZ11_3.out G4.out)
  have HB4 : Hid (Below w.heap.size w (w3.alloc (.cells #[.slice ZA0 D.length Zc0, .slice ZA1 M.length Zc1, .int .i64 fz2, .bool off2, .int .i64 b2, .int .i64 l2, .int .i64 q2, .int .i64 t2, .int .i64 sq2, .int .i64 at2, .slice ZA10 G.length Zc10, .slice ZA11 H.length Zc11] 38))) := Lib.hid (HB3.out.trans (G4.out.mono HB3.out.size))
  have K8_4 : Hid ((w3.alloc (.cells #[.slice ZA0 D.length Zc0, .slice ZA1 M.length Zc1, .int .i64 fz2, .bool off2, .int .i64 b2, .int .i64 l2, .int .i64 q2, .int .i64 t2, .int .i64 sq2, .int .i64 at2, .slice ZA10 G.length Zc10, .slice ZA11 H.length Zc11] 38)).heap[w3.heap.size]? = some (.cells #[.slice ZA0 D.length Zc0, .slice ZA1 M.length Zc1, .int .i64 fz2, .bool off2, .int .i64 b2, .int .i64 l2, .int .i64 q2, .int .i64 t2, .int .i64 sq2, .int .i64 at2, .slice ZA10 G.length Zc10, .slice ZA11 H.length Zc11] 38 (0, 0))) := Lib.hid (heap_alloc_new w3 _)
  go_wp2_with (first | (refine wpList_load_row rfl 30 (.tmp 3) rfl _ rfl 30 _ (0, 0) _ F_4.out Tryz.underlying30 rfl (by kernel_rfl) ?_) | (refine wpList_load_row rfl 38 (.tmp 8) rfl _ rfl 38 _ (0, 0) _ K8_4.out Tryz.underlying38 rfl (by kernel_rfl) ?_))
  generalize (w3.alloc (.cells #[.slice ZA0 D.length Zc0, .slice ZA1 M.length Zc1, .int .i64 fz2, .bool off2, .int .i64 b2, .int .i64 l2, .int .i64 q2, .int .i64 t2, .int .i64 sq2, .int .i64 at2, .slice ZA10 G.length Zc10, .slice ZA11 H.length Zc11] 38)) = w4 at *
  refine (toPager2_any (Ha.out.at (Nat.le_refl _) HB4.out) (Hb.out.at (Nat.le_refl _) HB4.out) (Hc.out.at (Nat.le_refl _) HB4.out) (Hd.out.at (Nat.le_refl _) HB4.out) (Nat.le_refl _) SM.out).mono ?_
  rintro e w5 ⟨VA0, VA1, VA10, VA11, p1V, p2V, rfl, oa, ob, oc, od, ap, ia, ib, ic, id, r0, r1, r2, g⟩
  have G5 := Lib.hid g; have SZ5 : Hid (w4.heap.size ≤ w5.heap.size) := Lib.hid g.size; clear g
  have F_5 : Hid (w5.heap[w.heap.size]? = some (.cells #[.slice A0 ss.length c0, .slice A1 ps.length c1, .int .i64 fz, .bool off, .int .i64 b, .int .i64 l, .int .i64 q, .int .i64 t, .int .i64 sq, .int .i64 at_, .slice A10 lg.length c10, .slice A11 dt.length c11] 30 (0, 0))) := Lib.hid ((G5.out.block _ (by have s0 := SZ0.out; have s1 := SZ1.out; have s2 := SZ2.out; have s3 := SZ3.out; have s4 := SZ4.out; omega)).trans F_4.out)
  have OZ0_5 : Hid (OT w5 w2.heap.size (.slice ZA0 D.length Zc0) D) := Lib.hid (own_bel OZ0_4.out G5.out)
  have OZ1_5 : Hid (OU w5 w2.heap.size (.slice ZA1 M.length Zc1) M) := Lib.hid (own_bel OZ1_4.out G5.out)
  have OZ10_5 : Hid (OG w5 w2.heap.size (.slice ZA10 G.length Zc10) G) := Lib.hid (own_bel OZ10_4.out G5.out)
  have OZ11_5 : Hid (OG w5 w2.heap.size (.slice ZA11 H.length Zc11) H) := Lib.hid (own_bel OZ11_4.out G5.out)
  have K8_5 : Hid (w5.heap[w3.heap.size]? = some (.cells #[.slice ZA0 D.length Zc0, .slice ZA1 M.length Zc1, .int .i64 fz2, .bool off2, .int .i64 b2, .int .i64 l2, .int .i64 q2, .int .i64 t2, .int .i64 sq2, .int .i64 at2, .slice ZA10 G.length Zc10, .slice ZA11 H.length Zc11] 38 (0, 0))) := Lib.hid ((G5.out.block _ (by have s0 := SZ0.out; have s1 := SZ1.out; have s2 := SZ2.out; have s3 := SZ3.out; have s4 := SZ4.out; omega)).trans K8_4.out)
  have HB5 : Hid (Below w.heap.size w w5) := Lib.hid (HB4.out.trans (G5.out.mono HB4.out.size))
  have OV0_5 : Hid (OT w5 w4.heap.size (.slice VA0 ss.length ss.length) ss) := Lib.hid oa
  have OV1_5 : Hid (OU w5 w4.heap.size (.slice VA1 ps.length ps.length) ps) := Lib.hid ob
  have OV10_5 : Hid (OG w5 w4.heap.size (.slice VA10 lg.length lg.length) lg) := Lib.hid oc
  have OV11_5 : Hid (OG w5 w4.heap.size (.slice VA11 dt.length dt.length) dt) := Lib.hid od
  have KIV0 := Lib.hid (own_wi OV0_5.out)
  have KIV1 := Lib.hid (own_wi OV1_5.out)
  have KIV10 := Lib.hid (own_wi OV10_5.out)
  have KIV11 := Lib.hid (own_wi OV11_5.out)
  have XV := Lib.hid ap; have IV0 := Lib.hid ia; have IV1 := Lib.hid ib; have IV10 := Lib.hid ic; have IV11 := Lib.hid id; have QV := Lib.hid (And.intro r0 (And.intro r1 r2)); clear oa ob oc od ap ia ib ic id r0 r1 r2
  have G6 : Hid (Below w5.heap.size w5 (w5.alloc (.cells #[.slice VA0 ss.length ss.length, .slice VA1 ps.length ps.length, .int .i64 fz, .bool off, .int .i64 b, .int .i64 l, .int .i64 q, .int .i64 t, .int .i64 sq, .int .i64 at_, .slice VA10 lg.length lg.length, .slice VA11 dt.length dt.length] 38))) := Lib.hid ((Below.refl _ _).alloc (Nat.le_refl _) _)
  have SZ6 : Hid (w5.heap.size + 1 ≤ (w5.alloc (.cells #[.slice VA0 ss.length ss.length, .slice VA1 ps.length ps.length, .int .i64 fz, .bool off, .int .i64 b, .int .i64 l, .int .i64 q, .int .i64 t, .int .i64 sq, .int .i64 at_, .slice VA10 lg.length lg.length, .slice VA11 dt.length dt.length] 38)).heap.size) := Lib.hid (by simp)
  have F_6 : Hid ((w5.alloc (.cells #[.slice VA0 ss.length ss.length, .slice VA1 ps.length ps.length, .int .i64 fz, .bool off, .int .i64 b, .int .i64 l, .int .i64 q, .int .i64 t, .int .i64 sq, .int .i64 at_, .slice VA10 lg.length lg.length, .slice VA11 dt.length dt.length] 38)).heap[w.heap.size]? = some (.cells #[.slice A0 ss.length c0, .slice A1 ps.length c1, .int .i64 fz, .bool off, .int .i64 b, .int .i64 l, .int .i64 q, .int .i64 t, .int .i64 sq, .int .i64 at_, .slice A10 lg.length c10, .slice A11 dt.length c11] 30 (0, 0))) := Lib.hid ((G6.out.block _ (by have s0 := SZ0.out; have s1 := SZ1.out; have s2 := SZ2.out; have s3 := SZ3.out; have s4 := SZ4.out; have s5 := SZ5.out; omega)).trans F_5.out)
  have OZ0_6 : Hid (OT (w5.alloc (.cells #[.slice VA0 ss.length ss.length, .slice VA1 ps.length ps.length, .int .i64 fz, .bool off, .int .i64 b, .int .i64 l, .int .i64 q, .int .i64 t, .int .i64 sq, .int .i64 at_, .slice VA10 lg.length lg.length, .slice VA11 dt.length dt.length] 38)) w2.heap.size (.slice ZA0 D.length Zc0) D) := Lib.hid (own_bel OZ0_5.out G6.out)
  have OZ1_6 : Hid (OU (w5.alloc (.cells #[.slice VA0 ss.length ss.length, .slice VA1 ps.length ps.length, .int .i64 fz, .bool off, .int .i64 b, .int .i64 l, .int .i64 q, .int .i64 t, .int .i64 sq, .int .i64 at_, .slice VA10 lg.length lg.length, .slice VA11 dt.length dt.length] 38)) w2.heap.size (.slice ZA1 M.length Zc1) M) := Lib.hid (own_bel OZ1_5.out G6.out)
  have OZ10_6 : Hid (OG (w5.alloc (.cells #[.slice VA0 ss.length ss.length, .slice VA1 ps.length ps.length, .int .i64 fz, .bool off, .int .i64 b, .int .i64 l, .int .i64 q, .int .i64 t, .int .i64 sq, .int .i64 at_, .slice VA10 lg.length lg.length, .slice VA11 dt.length dt.length] 38)) w2.heap.size (.slice ZA10 G.length Zc10) G) := Lib.hid (own_bel OZ10_5.out G6.out)
  have OZ11_6 : Hid (OG (w5.alloc (.cells #[.slice VA0 ss.length ss.length, .slice VA1 ps.length ps.length, .int .i64 fz, .bool off, .int .i64 b, .int .i64 l, .int .i64 q, .int .i64 t, .int .i64 sq, .int .i64 at_, .slice VA10 lg.length lg.length, .slice VA11 dt.length dt.length] 38)) w2.heap.size (.slice ZA11 H.length Zc11) H) := Lib.hid (own_bel OZ11_5.out G6.out)
  have K8_6 : Hid ((w5.alloc (.cells #[.slice VA0 ss.length ss.length, .slice VA1 ps.length ps.length, .int .i64 fz, .bool off, .int .i64 b, .int .i64 l, .int .i64 q, .int .i64 t, .int .i64 sq, .int .i64 at_, .slice VA10 lg.length lg.length, .slice VA11 dt.length dt.length] 38)).heap[w3.heap.size]? = some (.cells #[.slice ZA0 D.length Zc0, .slice ZA1 M.length Zc1, .int .i64 fz2, .bool off2, .int .i64 b2, .int .i64 l2, .int .i64 q2, .int .i64 t2, .int .i64 sq2, .int .i64 at2, .slice ZA10 G.length Zc10, .slice ZA11 H.length Zc11] 38 (0, 0))) := Lib.hid ((G6.out.block _ (by have s0 := SZ0.out; have s1 := SZ1.out; have s2 := SZ2.out; have s3 := SZ3.out; have s4 := SZ4.out; have s5 := SZ5.out; omega)).trans K8_5.out)
  have OV0_6 : Hid (OT (w5.alloc (.cells #[.slice VA0 ss.length ss.length, .slice VA1 ps.length ps.length, .int .i64 fz, .bool off, .int .i64 b, .int .i64 l, .int .i64 q, .int .i64 t, .int .i64 sq, .int .i64 at_, .slice VA10 lg.length lg.length, .slice VA11 dt.length dt.length] 38)) w4.heap.size (.slice VA0 ss.length ss.length) ss) := Lib.hid (own_bel OV0_5.out G6.out)
  have OV1_6 : Hid (OU (w5.alloc (.cells #[.slice VA0 ss.length ss.length, .slice VA1 ps.length ps.length, .int .i64 fz, .bool off, .int .i64 b, .int .i64 l, .int .i64 q, .int .i64 t, .int .i64 sq, .int .i64 at_, .slice VA10 lg.length lg.length, .slice VA11 dt.length dt.length] 38)) w4.heap.size (.slice VA1 ps.length ps.length) ps) := Lib.hid (own_bel OV1_5.out G6.out)
  have OV10_6 : Hid (OG (w5.alloc (.cells #[.slice VA0 ss.length ss.length, .slice VA1 ps.length ps.length, .int .i64 fz, .bool off, .int .i64 b, .int .i64 l, .int .i64 q, .int .i64 t, .int .i64 sq, .int .i64 at_, .slice VA10 lg.length lg.length, .slice VA11 dt.length dt.length] 38)) w4.heap.size (.slice VA10 lg.length lg.length) lg) := Lib.hid (own_bel OV10_5.out G6.out)
  have OV11_6 : Hid (OG (w5.alloc (.cells #[.slice VA0 ss.length ss.length, .slice VA1 ps.length ps.length, .int .i64 fz, .bool off, .int .i64 b, .int .i64 l, .int .i64 q, .int .i64 t, .int .i64 sq, .int .i64 at_, .slice VA10 lg.length lg.length, .slice VA11 dt.length dt.length] 38)) w4.heap.size (.slice VA11 dt.length dt.length) dt) := Lib.hid (own_bel OV11_5.out G6.out)
  have HB6 : Hid (Below w.heap.size w (w5.alloc (.cells #[.slice VA0 ss.length ss.length, .slice VA1 ps.length ps.length, .int .i64 fz, .bool off, .int .i64 b, .int .i64 l, .int .i64 q, .int .i64 t, .int .i64 sq, .int .i64 at_, .slice VA10 lg.length lg.length, .slice VA11 dt.length dt.length] 38))) := Lib.hid (HB5.out.trans (G6.out.mono HB5.out.size))
  have K10_6 : Hid ((w5.alloc (.cells #[.slice VA0 ss.length ss.length, .slice VA1 ps.length ps.length, .int .i64 fz, .bool off, .int .i64 b, .int .i64 l, .int .i64 q, .int .i64 t, .int .i64 sq, .int .i64 at_, .slice VA10 lg.length lg.length, .slice VA11 dt.length dt.length] 38)).heap[w5.heap.size]? = some (.cells #[.slice VA0 ss.length ss.length, .slice VA1 ps.length ps.length, .int .i64 fz, .bool off, .int .i64 b, .int .i64 l, .int .i64 q, .int .i64 t, .int .i64 sq, .int .i64 at_, .slice VA10 lg.length lg.length, .slice VA11 dt.length dt.length] 38 (0, 0))) := Lib.hid (heap_alloc_new w5 _)
  go_wp2_with (first | (refine wpList_load_row rfl 30 (.tmp 3) rfl _ rfl 30 _ (0, 0) _ F_6.out Tryz.underlying30 rfl (by kernel_rfl) ?_) | (refine wpList_load_row rfl 38 (.tmp 8) rfl _ rfl 38 _ (0, 0) _ K8_6.out Tryz.underlying38 rfl (by kernel_rfl) ?_) | (refine wpList_load_row rfl 38 (.tmp 10) rfl _ rfl 38 _ (0, 0) _ K10_6.out Tryz.underlying38 rfl (by kernel_rfl) ?_))
  generalize (w5.alloc (.cells #[.slice VA0 ss.length ss.length, .slice VA1 ps.length ps.length, .int .i64 fz, .bool off, .int .i64 b, .int .i64 l, .int .i64 q, .int .i64 t, .int .i64 sq, .int .i64 at_, .slice VA10 lg.length lg.length, .slice VA11 dt.length dt.length] 38)) = w6 at *
  refine (P0.out w6 _ _ _ _ (OV0_6.out.rit IDa.out) (OV1_6.out.riu IMa.out) (OV10_6.out.riu IGa.out) (OV11_6.out.riu IHa.out) SM.out.1.1.1 SM.out.1.2.1).mono ?_
  rintro e w7 ⟨YA0, YA1, YA10, YA11, Yc0, Yc1, Yc10, Yc11, rfl, pg, g⟩
  have G7 := Lib.hid g; have SZ7 : Hid (w6.heap.size ≤ w7.heap.size) := Lib.hid g.size; clear g
  have F_7 : Hid (w7.heap[w.heap.size]? = some (.cells #[.slice A0 ss.length c0, .slice A1 ps.length c1, .int .i64 fz, .bool off, .int .i64 b, .int .i64 l, .int .i64 q, .int .i64 t, .int .i64 sq, .int .i64 at_, .slice A10 lg.length c10, .slice A11 dt.length c11] 30 (0, 0))) := Lib.hid ((G7.out.block _ (by have s0 := SZ0.out; have s1 := SZ1.out; have s2 := SZ2.out; have s3 := SZ3.out; have s4 := SZ4.out; have s5 := SZ5.out; have s6 := SZ6.out; omega)).trans F_6.out)
  have OZ0_7 : Hid (OT w7 w2.heap.size (.slice ZA0 D.length Zc0) D) := Lib.hid (own_bel OZ0_6.out G7.out)
  have OZ1_7 : Hid (OU w7 w2.heap.size (.slice ZA1 M.length Zc1) M) := Lib.hid (own_bel OZ1_6.out G7.out)
  have OZ10_7 : Hid (OG w7 w2.heap.size (.slice ZA10 G.length Zc10) G) := Lib.hid (own_bel OZ10_6.out G7.out)
  have OZ11_7 : Hid (OG w7 w2.heap.size (.slice ZA11 H.length Zc11) H) := Lib.hid (own_bel OZ11_6.out G7.out)
  have K8_7 : Hid (w7.heap[w3.heap.size]? = some (.cells #[.slice ZA0 D.length Zc0, .slice ZA1 M.length Zc1, .int .i64 fz2, .bool off2, .int .i64 b2, .int .i64 l2, .int .i64 q2, .int .i64 t2, .int .i64 sq2, .int .i64 at2, .slice ZA10 G.length Zc10, .slice ZA11 H.length Zc11] 38 (0, 0))) := Lib.hid ((G7.out.block _ (by have s0 := SZ0.out; have s1 := SZ1.out; have s2 := SZ2.out; have s3 := SZ3.out; have s4 := SZ4.out; have s5 := SZ5.out; have s6 := SZ6.out; omega)).trans K8_6.out)
  have OV0_7 : Hid (OT w7 w4.heap.size (.slice VA0 ss.length ss.length) ss) := Lib.hid (own_bel OV0_6.out G7.out)
  have OV1_7 : Hid (OU w7 w4.heap.size (.slice VA1 ps.length ps.length) ps) := Lib.hid (own_bel OV1_6.out G7.out)
  have OV10_7 : Hid (OG w7 w4.heap.size (.slice VA10 lg.length lg.length) lg) := Lib.hid (own_bel OV10_6.out G7.out)
  have OV11_7 : Hid (OG w7 w4.heap.size (.slice VA11 dt.length dt.length) dt) := Lib.hid (own_bel OV11_6.out G7.out)
  have K10_7 : Hid (w7.heap[w5.heap.size]? = some (.cells #[.slice VA0 ss.length ss.length, .slice VA1 ps.length ps.length, .int .i64 fz, .bool off, .int .i64 b, .int .i64 l, .int .i64 q, .int .i64 t, .int .i64 sq, .int .i64 at_, .slice VA10 lg.length lg.length, .slice VA11 dt.length dt.length] 38 (0, 0))) := Lib.hid ((G7.out.block _ (by have s0 := SZ0.out; have s1 := SZ1.out; have s2 := SZ2.out; have s3 := SZ3.out; have s4 := SZ4.out; have s5 := SZ5.out; have s6 := SZ6.out; omega)).trans K10_6.out)
  have HB7 : Hid (Below w.heap.size w w7) := Lib.hid (HB6.out.trans (G7.out.mono HB6.out.size))
  simp only [mkC]
  have PGY := Lib.hid pg; clear pg
  have OY0_7 : Hid (OT w7 w6.heap.size (.slice YA0 D.length Yc0) D) := Lib.hid PGY.out.1
  have OY1_7 : Hid (OU w7 w6.heap.size (.slice YA1 M.length Yc1) M) := Lib.hid PGY.out.2.1
  have OY10_7 : Hid (OG w7 w6.heap.size (.slice YA10 G.length Yc10) G) := Lib.hid PGY.out.2.2.1
  have OY11_7 : Hid (OG w7 w6.heap.size (.slice YA11 H.length Yc11) H) := Lib.hid PGY.out.2.2.2.1
  have KIY0 := Lib.hid (own_wi OY0_7.out)
  have KIY1 := Lib.hid (own_wi OY1_7.out)
  have KIY10 := Lib.hid (own_wi OY10_7.out)
  have KIY11 := Lib.hid (own_wi OY11_7.out)
  obtain ⟨p1Y, p2Y, hiY, iy0, iy1, iy10, iy11, ry0, ry1, ry2, ry3⟩ := PGY.out.2.2.2.2
  have IY0 := Lib.hid iy0; have IY1 := Lib.hid iy1; have IY10 := Lib.hid iy10; have IY11 := Lib.hid iy11; have QY := Lib.hid (And.intro ry0 (And.intro ry1 (And.intro ry2 ry3))); clear iy0 iy1 iy10 iy11 ry0 ry1 ry2 ry3
  have G8 : Hid (Below w7.heap.size w7 (w7.alloc (.cells #[.slice YA0 D.length Yc0, .slice YA1 M.length Yc1, .int .i64 fz2, .bool off2, .int .i64 b2, .int .i64 l2, .int .i64 q2, .int .i64 t2, .int .i64 sq2, .int .i64 at2, .slice YA10 G.length Yc10, .slice YA11 H.length Yc11] 38))) := Lib.hid ((Below.refl _ _).alloc (Nat.le_refl _) _)
  have SZ8 : Hid (w7.heap.size + 1 ≤ (w7.alloc (.cells #[.slice YA0 D.length Yc0, .slice YA1 M.length Yc1, .int .i64 fz2, .bool off2, .int .i64 b2, .int .i64 l2, .int .i64 q2, .int .i64 t2, .int .i64 sq2, .int .i64 at2, .slice YA10 G.length Yc10, .slice YA11 H.length Yc11] 38)).heap.size) := Lib.hid (by simp)
  have F_8 : Hid ((w7.alloc (.cells #[.slice YA0 D.length Yc0, .slice YA1 M.length Yc1, .int .i64 fz2, .bool off2, .int .i64 b2, .int .i64 l2, .int .i64 q2, .int .i64 t2, .int .i64 sq2, .int .i64 at2, .slice YA10 G.length Yc10, .slice YA11 H.length Yc11] 38)).heap[w.heap.size]? = some (.cells #[.slice A0 ss.length c0, .slice A1 ps.length c1, .int .i64 fz, .bool off, .int .i64 b, .int .i64 l, .int .i64 q, .int .i64 t, .int .i64 sq, .int .i64 at_, .slice A10 lg.length c10, .slice A11 dt.length c11] 30 (0, 0))) := Lib.hid ((G8.out.block _ (by have s0 := SZ0.out; have s1 := SZ1.out; have s2 := SZ2.out; have s3 := SZ3.out; have s4 := SZ4.out; have s5 := SZ5.out; have s6 := SZ6.out; have s7 := SZ7.out; omega)).trans F_7.out)
  have OZ0_8 : Hid (OT (w7.alloc (.cells #[.slice YA0 D.length Yc0, .slice YA1 M.length Yc1, .int .i64 fz2, .bool off2, .int .i64 b2, .int .i64 l2, .int .i64 q2, .int .i64 t2, .int .i64 sq2, .int .i64 at2, .slice YA10 G.length Yc10, .slice YA11 H.length Yc11] 38)) w2.heap.size (.slice ZA0 D.length Zc0) D) := Lib.hid (own_bel OZ0_7.out G8.out)
  have OZ1_8 : Hid (OU (w7.alloc (.cells #[.slice YA0 D.length Yc0, .slice YA1 M.length Yc1, .int .i64 fz2, .bool off2, .int .i64 b2, .int .i64 l2, .int .i64 q2, .int .i64 t2, .int .i64 sq2, .int .i64 at2, .slice YA10 G.length Yc10, .slice YA11 H.length Yc11] 38)) w2.heap.size (.slice ZA1 M.length Zc1) M) := Lib.hid (own_bel OZ1_7.out G8.out)
  have OZ10_8 : Hid (OG (w7.alloc (.cells #[.slice YA0 D.length Yc0, .slice YA1 M.length Yc1, .int .i64 fz2, .bool off2, .int .i64 b2, .int .i64 l2, .int .i64 q2, .int .i64 t2, .int .i64 sq2, .int .i64 at2, .slice YA10 G.length Yc10, .slice YA11 H.length Yc11] 38)) w2.heap.size (.slice ZA10 G.length Zc10) G) := Lib.hid (own_bel OZ10_7.out G8.out)
  have OZ11_8 : Hid (OG (w7.alloc (.cells #[.slice YA0 D.length Yc0, .slice YA1 M.length Yc1, .int .i64 fz2, .bool off2, .int .i64 b2, .int .i64 l2, .int .i64 q2, .int .i64 t2, .int .i64 sq2, .int .i64 at2, .slice YA10 G.length Yc10, .slice YA11 H.length Yc11] 38)) w2.heap.size (.slice ZA11 H.length Zc11) H) := Lib.hid (own_bel OZ11_7.out G8.out)
  have K8_8 : Hid ((w7.alloc (.cells #[.slice YA0 D.length Yc0, .slice YA1 M.length Yc1, .int .i64 fz2, .bool off2, .int .i64 b2, .int .i64 l2, .int .i64 q2, .int .i64 t2, .int .i64 sq2, .int .i64 at2, .slice YA10 G.length Yc10, .slice YA11 H.length Yc11] 38)).heap[w3.heap.size]? = some (.cells #[.slice ZA0 D.length Zc0, .slice ZA1 M.length Zc1, .int .i64 fz2, .bool off2, .int .i64 b2, .int .i64 l2, .int .i64 q2, .int .i64 t2, .int .i64 sq2, .int .i64 at2, .slice ZA10 G.length Zc10, .slice ZA11 H.length Zc11] 38 (0, 0))) := Lib.hid ((G8.out.block _ (by have s0 := SZ0.out; have s1 := SZ1.out; have s2 := SZ2.out; have s3 := SZ3.out; have s4 := SZ4.out; have s5 := SZ5.out; have s6 := SZ6.out; have s7 := SZ7.out; omega)).trans K8_7.out)
  have OV0_8 : Hid (OT (w7.alloc (.cells #[.slice YA0 D.length Yc0, .slice YA1 M.length Yc1, .int .i64 fz2, .bool off2, .int .i64 b2, .int .i64 l2, .int .i64 q2, .int .i64 t2, .int .i64 sq2, .int .i64 at2, .slice YA10 G.length Yc10, .slice YA11 H.length Yc11] 38)) w4.heap.size (.slice VA0 ss.length ss.length) ss) := Lib.hid (own_bel OV0_7.out G8.out)
  have OV1_8 : Hid (OU (w7.alloc (.cells #[.slice YA0 D.length Yc0, .slice YA1 M.length Yc1, .int .i64 fz2, .bool off2, .int .i64 b2, .int .i64 l2, .int .i64 q2, .int .i64 t2, .int .i64 sq2, .int .i64 at2, .slice YA10 G.length Yc10, .slice YA11 H.length Yc11] 38)) w4.heap.size (.slice VA1 ps.length ps.length) ps) := Lib.hid (own_bel OV1_7.out G8.out)
  have OV10_8 : Hid (OG (w7.alloc (.cells #[.slice YA0 D.length Yc0, .slice YA1 M.length Yc1, .int .i64 fz2, .bool off2, .int .i64 b2, .int .i64 l2, .int .i64 q2, .int .i64 t2, .int .i64 sq2, .int .i64 at2, .slice YA10 G.length Yc10, .slice YA11 H.length Yc11] 38)) w4.heap.size (.slice VA10 lg.length lg.length) lg) := Lib.hid (own_bel OV10_7.out G8.out)
  have OV11_8 : Hid (OG (w7.alloc (.cells #[.slice YA0 D.length Yc0, .slice YA1 M.length Yc1, .int .i64 fz2, .bool off2, .int .i64 b2, .int .i64 l2, .int .i64 q2, .int .i64 t2, .int .i64 sq2, .int .i64 at2, .slice YA10 G.length Yc10, .slice YA11 H.length Yc11] 38)) w4.heap.size (.slice VA11 dt.length dt.length) dt) := Lib.hid (own_bel OV11_7.out G8.out)
  have K10_8 : Hid ((w7.alloc (.cells #[.slice YA0 D.length Yc0, .slice YA1 M.length Yc1, .int .i64 fz2, .bool off2, .int .i64 b2, .int .i64 l2, .int .i64 q2, .int .i64 t2, .int .i64 sq2, .int .i64 at2, .slice YA10 G.length Yc10, .slice YA11 H.length Yc11] 38)).heap[w5.heap.size]? = some (.cells #[.slice VA0 ss.length ss.length, .slice VA1 ps.length ps.length, .int .i64 fz, .bool off, .int .i64 b, .int .i64 l, .int .i64 q, .int .i64 t, .int .i64 sq, .int .i64 at_, .slice VA10 lg.length lg.length, .slice VA11 dt.length dt.length] 38 (0, 0))) := Lib.hid ((G8.out.block _ (by have s0 := SZ0.out; have s1 := SZ1.out; have s2 := SZ2.out; have s3 := SZ3.out; have s4 := SZ4.out; have s5 := SZ5.out; have s6 := SZ6.out; have s7 := SZ7.out; omega)).trans K10_7.out)
  have OY0_8 : Hid (OT (w7.alloc (.cells #[.slice YA0 D.length Yc0, .slice YA1 M.length Yc1, .int .i64 fz2, .bool off2, .int .i64 b2, .int .i64 l2, .int .i64 q2, .int .i64 t2, .int .i64 sq2, .int .i64 at2, .slice YA10 G.length Yc10, .slice YA11 H.length Yc11] 38)) w6.heap.size (.slice YA0 D.length Yc0) D) := Lib.hid (own_bel OY0_7.out G8.out)
  have OY1_8 : Hid (OU (w7.alloc (.cells #[.slice YA0 D.length Yc0, .slice YA1 M.length Yc1, .int .i64 fz2, .bool off2, .int .i64 b2, .int .i64 l2, .int .i64 q2, .int .i64 t2, .int .i64 sq2, .int .i64 at2, .slice YA10 G.length Yc10, .slice YA11 H.length Yc11] 38)) w6.heap.size (.slice YA1 M.length Yc1) M) := Lib.hid (own_bel OY1_7.out G8.out)
  have OY10_8 : Hid (OG (w7.alloc (.cells #[.slice YA0 D.length Yc0, .slice YA1 M.length Yc1, .int .i64 fz2, .bool off2, .int .i64 b2, .int .i64 l2, .int .i64 q2, .int .i64 t2, .int .i64 sq2, .int .i64 at2, .slice YA10 G.length Yc10, .slice YA11 H.length Yc11] 38)) w6.heap.size (.slice YA10 G.length Yc10) G) := Lib.hid (own_bel OY10_7.out G8.out)
  have OY11_8 : Hid (OG (w7.alloc (.cells #[.slice YA0 D.length Yc0, .slice YA1 M.length Yc1, .int .i64 fz2, .bool off2, .int .i64 b2, .int .i64 l2, .int .i64 q2, .int .i64 t2, .int .i64 sq2, .int .i64 at2, .slice YA10 G.length Yc10, .slice YA11 H.length Yc11] 38)) w6.heap.size (.slice YA11 H.length Yc11) H) := Lib.hid (own_bel OY11_7.out G8.out)
  have HB8 : Hid (Below w.heap.size w (w7.alloc (.cells #[.slice YA0 D.length Yc0, .slice YA1 M.length Yc1, .int .i64 fz2, .bool off2, .int .i64 b2, .int .i64 l2, .int .i64 q2, .int .i64 t2, .int .i64 sq2, .int .i64 at2, .slice YA10 G.length Yc10, .slice YA11 H.length Yc11] 38))) := Lib.hid (HB7.out.trans (G8.out.mono HB7.out.size))
  have K11_8 : Hid ((w7.alloc (.cells #[.slice YA0 D.length Yc0, .slice YA1 M.length Yc1, .int .i64 fz2, .bool off2, .int .i64 b2, .int .i64 l2, .int .i64 q2, .int .i64 t2, .int .i64 sq2, .int .i64 at2, .slice YA10 G.length Yc10, .slice YA11 H.length Yc11] 38)).heap[w7.heap.size]? = some (.cells #[.slice YA0 D.length Yc0, .slice YA1 M.length Yc1, .int .i64 fz2, .bool off2, .int .i64 b2, .int .i64 l2, .int .i64 q2, .int .i64 t2, .int .i64 sq2, .int .i64 at2, .slice YA10 G.length Yc10, .slice YA11 H.length Yc11] 38 (0, 0))) := Lib.hid (heap_alloc_new w7 _)
  go_wp2_with (first | (refine wpList_load_row rfl 30 (.tmp 3) rfl _ rfl 30 _ (0, 0) _ F_8.out Tryz.underlying30 rfl (by kernel_rfl) ?_) | (refine wpList_load_row rfl 38 (.tmp 8) rfl _ rfl 38 _ (0, 0) _ K8_8.out Tryz.underlying38 rfl (by kernel_rfl) ?_) | (refine wpList_load_row rfl 38 (.tmp 10) rfl _ rfl 38 _ (0, 0) _ K10_8.out Tryz.underlying38 rfl (by kernel_rfl) ?_) | (refine wpList_load_row rfl 38 (.tmp 11) rfl _ rfl 38 _ (0, 0) _ K11_8.out Tryz.underlying38 rfl (by kernel_rfl) ?_))
  generalize (w7.alloc (.cells #[.slice YA0 D.length Yc0, .slice YA1 M.length Yc1, .int .i64 fz2, .bool off2, .int .i64 b2, .int .i64 l2, .int .i64 q2, .int .i64 t2, .int .i64 sq2, .int .i64 at2, .slice YA10 G.length Yc10, .slice YA11 H.length Yc11] 38)) = w8 at *
  refine (eqPager_any (OY0_8.out.rit ID.out) (OY1_8.out.riu IM.out) (OY10_8.out.riu IG.out) (OY11_8.out.riu IH.out) (OZ0_8.out.rit ID.out) (OZ1_8.out.riu IM.out) (OZ10_8.out.riu IG.out) (OZ11_8.out.riu IH.out) (Nat.le_refl _)).mono ?_
  rintro e w9 ⟨rfl, g⟩
  have G9 := Lib.hid g; have SZ9 : Hid (w8.heap.size ≤ w9.heap.size) := Lib.hid g.size; clear g
  have F_9 : Hid (w9.heap[w.heap.size]? = some (.cells #[.slice A0 ss.length c0, .slice A1 ps.length c1, .int .i64 fz, .bool off, .int .i64 b, .int .i64 l, .int .i64 q, .int .i64 t, .int .i64 sq, .int .i64 at_, .slice A10 lg.length c10, .slice A11 dt.length c11] 30 (0, 0))) := Lib.hid ((G9.out.block _ (by have s0 := SZ0.out; have s1 := SZ1.out; have s2 := SZ2.out; have s3 := SZ3.out; have s4 := SZ4.out; have s5 := SZ5.out; have s6 := SZ6.out; have s7 := SZ7.out; have s8 := SZ8.out; omega)).trans F_8.out)
  have OZ0_9 : Hid (OT w9 w2.heap.size (.slice ZA0 D.length Zc0) D) := Lib.hid (own_bel OZ0_8.out G9.out)
  have OZ1_9 : Hid (OU w9 w2.heap.size (.slice ZA1 M.length Zc1) M) := Lib.hid (own_bel OZ1_8.out G9.out)
  have OZ10_9 : Hid (OG w9 w2.heap.size (.slice ZA10 G.length Zc10) G) := Lib.hid (own_bel OZ10_8.out G9.out)
  have OZ11_9 : Hid (OG w9 w2.heap.size (.slice ZA11 H.length Zc11) H) := Lib.hid (own_bel OZ11_8.out G9.out)
  have K8_9 : Hid (w9.heap[w3.heap.size]? = some (.cells #[.slice ZA0 D.length Zc0, .slice ZA1 M.length Zc1, .int .i64 fz2, .bool off2, .int .i64 b2, .int .i64 l2, .int .i64 q2, .int .i64 t2, .int .i64 sq2, .int .i64 at2, .slice ZA10 G.length Zc10, .slice ZA11 H.length Zc11] 38 (0, 0))) := Lib.hid ((G9.out.block _ (by have s0 := SZ0.out; have s1 := SZ1.out; have s2 := SZ2.out; have s3 := SZ3.out; have s4 := SZ4.out; have s5 := SZ5.out; have s6 := SZ6.out; have s7 := SZ7.out; have s8 := SZ8.out; omega)).trans K8_8.out)
  have OV0_9 : Hid (OT w9 w4.heap.size (.slice VA0 ss.length ss.length) ss) := Lib.hid (own_bel OV0_8.out G9.out)
  have OV1_9 : Hid (OU w9 w4.heap.size (.slice VA1 ps.length ps.length) ps) := Lib.hid (own_bel OV1_8.out G9.out)
  have OV10_9 : Hid (OG w9 w4.heap.size (.slice VA10 lg.length lg.length) lg) := Lib.hid (own_bel OV10_8.out G9.out)
  have OV11_9 : Hid (OG w9 w4.heap.size (.slice VA11 dt.length dt.length) dt) := Lib.hid (own_bel OV11_8.out G9.out)
  have K10_9 : Hid (w9.heap[w5.heap.size]? = some (.cells #[.slice VA0 ss.length ss.length, .slice VA1 ps.length ps.length, .int .i64 fz, .bool off, .int .i64 b, .int .i64 l, .int .i64 q, .int .i64 t, .int .i64 sq, .int .i64 at_, .slice VA10 lg.length lg.length, .slice VA11 dt.length dt.length] 38 (0, 0))) := Lib.hid ((G9.out.block _ (by have s0 := SZ0.out; have s1 := SZ1.out; have s2 := SZ2.out; have s3 := SZ3.out; have s4 := SZ4.out; have s5 := SZ5.out; have s6 := SZ6.out; have s7 := SZ7.out; have s8 := SZ8.out; omega)).trans K10_8.out)
  have OY0_9 : Hid (OT w9 w6.heap.size (.slice YA0 D.length Yc0) D) := Lib.hid (own_bel OY0_8.out G9.out)
  have OY1_9 : Hid (OU w9 w6.heap.size (.slice YA1 M.length Yc1) M) := Lib.hid (own_bel OY1_8.out G9.out)
  have OY10_9 : Hid (OG w9 w6.heap.size (.slice YA10 G.length Yc10) G) := Lib.hid (own_bel OY10_8.out G9.out)
  have OY11_9 : Hid (OG w9 w6.heap.size (.slice YA11 H.length Yc11) H) := Lib.hid (own_bel OY11_8.out G9.out)
  have K11_9 : Hid (w9.heap[w7.heap.size]? = some (.cells #[.slice YA0 D.length Yc0, .slice YA1 M.length Yc1, .int .i64 fz2, .bool off2, .int .i64 b2, .int .i64 l2, .int .i64 q2, .int .i64 t2, .int .i64 sq2, .int .i64 at2, .slice YA10 G.length Yc10, .slice YA11 H.length Yc11] 38 (0, 0))) := Lib.hid ((G9.out.block _ (by have s0 := SZ0.out; have s1 := SZ1.out; have s2 := SZ2.out; have s3 := SZ3.out; have s4 := SZ4.out; have s5 := SZ5.out; have s6 := SZ6.out; have s7 := SZ7.out; have s8 := SZ8.out; omega)).trans K11_8.out)
  have HB9 : Hid (Below w.heap.size w w9) := Lib.hid (HB8.out.trans (G9.out.mono HB8.out.size))
  have HSd : Hid (∀ W, Below w9.heap.size w9 W → W.cell? ⟨w.heap.size, 0, none⟩ = some (.slice A0 ss.length c0) ∧ W.cell? ⟨w.heap.size, 1, none⟩ = some (.slice A1 ps.length c1) ∧ W.cell? ⟨w.heap.size, 2, none⟩ = some (.int .i64 fz) ∧ W.cell? ⟨w.heap.size, 3, none⟩ = some (.bool off) ∧ W.cell? ⟨w.heap.size, 4, none⟩ = some (.int .i64 b) ∧ W.cell? ⟨w.heap.size, 5, none⟩ = some (.int .i64 l) ∧ W.cell? ⟨w.heap.size, 6, none⟩ = some (.int .i64 q) ∧ W.cell? ⟨w.heap.size, 7, none⟩ = some (.int .i64 t) ∧ W.cell? ⟨w.heap.size, 8, none⟩ = some (.int .i64 sq) ∧ W.cell? ⟨w.heap.size, 9, none⟩ = some (.int .i64 at_) ∧ W.cell? ⟨w.heap.size, 10, none⟩ = some (.slice A10 lg.length c10) ∧ W.cell? ⟨w.heap.size, 11, none⟩ = some (.slice A11 dt.length c11) ∧ W.cell? ⟨w5.heap.size, 0, none⟩ = some (.slice VA0 ss.length ss.length) ∧ W.cell? ⟨w5.heap.size, 1, none⟩ = some (.slice VA1 ps.length ps.length) ∧ W.cell? ⟨w5.heap.size, 2, none⟩ = some (.int .i64 fz) ∧ W.cell? ⟨w5.heap.size, 3, none⟩ = some (.bool off) ∧ W.cell? ⟨w5.heap.size, 4, none⟩ = some (.int .i64 b) ∧ W.cell? ⟨w5.heap.size, 5, none⟩ = some (.int .i64 l) ∧ W.cell? ⟨w5.heap.size, 6, none⟩ = some (.int .i64 q) ∧ W.cell? ⟨w5.heap.size, 7, none⟩ = some (.int .i64 t) ∧ W.cell? ⟨w5.heap.size, 8, none⟩ = some (.int .i64 sq) ∧ W.cell? ⟨w5.heap.size, 9, none⟩ = some (.int .i64 at_) ∧ W.cell? ⟨w5.heap.size, 10, none⟩ = some (.slice VA10 lg.length lg.length) ∧ W.cell? ⟨w5.heap.size, 11, none⟩ = some (.slice VA11 dt.length dt.length)) := Lib.hid (fun W hW => by
    have r1 := (hW.block _ (by have s0 := SZ0.out; have s1 := SZ1.out; have s2 := SZ2.out; have s3 := SZ3.out; have s4 := SZ4.out; have s5 := SZ5.out; have s6 := SZ6.out; have s7 := SZ7.out; have s8 := SZ8.out; have s9 := SZ9.out; omega)).trans F_9.out
    have r2 := (hW.block _ (by have s0 := SZ0.out; have s1 := SZ1.out; have s2 := SZ2.out; have s3 := SZ3.out; have s4 := SZ4.out; have s5 := SZ5.out; have s6 := SZ6.out; have s7 := SZ7.out; have s8 := SZ8.out; have s9 := SZ9.out; omega)).trans K10_9.out
    exact ⟨by rw [cell_of_row _ _ _ _ _ _ r1]; rfl, by rw [cell_of_row _ _ _ _ _ _ r1]; rfl, by rw [cell_of_row _ _ _ _ _ _ r1]; rfl, by rw [cell_of_row _ _ _ _ _ _ r1]; rfl, by rw [cell_of_row _ _ _ _ _ _ r1]; rfl, by rw [cell_of_row _ _ _ _ _ _ r1]; rfl, by rw [cell_of_row _ _ _ _ _ _ r1]; rfl, by rw [cell_of_row _ _ _ _ _ _ r1]; rfl, by rw [cell_of_row _ _ _ _ _ _ r1]; rfl, by rw [cell_of_row _ _ _ _ _ _ r1]; rfl, by rw [cell_of_row _ _ _ _ _ _ r1]; rfl, by rw [cell_of_row _ _ _ _ _ _ r1]; rfl, by rw [cell_of_row _ _ _ _ _ _ r2]; rfl, by rw [cell_of_row _ _ _ _ _ _ r2]; rfl, by rw [cell_of_row _ _ _ _ _ _ r2]; rfl, by rw [cell_of_row _ _ _ _ _ _ r2]; rfl, by rw [cell_of_row _ _ _ _ _ _ r2]; rfl, by rw [cell_of_row _ _ _ _ _ _ r2]; rfl, by rw [cell_of_row _ _ _ _ _ _ r2]; rfl, by rw [cell_of_row _ _ _ _ _ _ r2]; rfl, by rw [cell_of_row _ _ _ _ _ _ r2]; rfl, by rw [cell_of_row _ _ _ _ _ _ r2]; rfl, by rw [cell_of_row _ _ _ _ _ _ r2]; rfl, by rw [cell_of_row _ _ _ _ _ _ r2]; rfl⟩)
  have HDd : Hid (Below w9.heap.size w9 w9.drew) := Lib.hid (Below.refl _ _).drew
  have HEd : Hid (Below w.heap.size w w9.drew) := Lib.hid (HB9.out.trans (HDd.out.mono HB9.out.size))
  go_wp2
  go_region_held3 (fun W => W.cell? ⟨w.heap.size, 0, none⟩ = some (.slice A0 ss.length c0) ∧ W.cell? ⟨w.heap.size, 1, none⟩ = some (.slice A1 ps.length c1) ∧ W.cell? ⟨w.heap.size, 2, none⟩ = some (.int .i64 fz) ∧ W.cell? ⟨w.heap.size, 3, none⟩ = some (.bool off) ∧ W.cell? ⟨w.heap.size, 4, none⟩ = some (.int .i64 b) ∧ W.cell? ⟨w.heap.size, 5, none⟩ = some (.int .i64 l) ∧ W.cell? ⟨w.heap.size, 6, none⟩ = some (.int .i64 q) ∧ W.cell? ⟨w.heap.size, 7, none⟩ = some (.int .i64 t) ∧ W.cell? ⟨w.heap.size, 8, none⟩ = some (.int .i64 sq) ∧ W.cell? ⟨w.heap.size, 9, none⟩ = some (.int .i64 at_) ∧ W.cell? ⟨w.heap.size, 10, none⟩ = some (.slice A10 lg.length c10) ∧ W.cell? ⟨w.heap.size, 11, none⟩ = some (.slice A11 dt.length c11) ∧ W.cell? ⟨w5.heap.size, 0, none⟩ = some (.slice VA0 ss.length ss.length) ∧ W.cell? ⟨w5.heap.size, 1, none⟩ = some (.slice VA1 ps.length ps.length) ∧ W.cell? ⟨w5.heap.size, 2, none⟩ = some (.int .i64 fz) ∧ W.cell? ⟨w5.heap.size, 3, none⟩ = some (.bool off) ∧ W.cell? ⟨w5.heap.size, 4, none⟩ = some (.int .i64 b) ∧ W.cell? ⟨w5.heap.size, 5, none⟩ = some (.int .i64 l) ∧ W.cell? ⟨w5.heap.size, 6, none⟩ = some (.int .i64 q) ∧ W.cell? ⟨w5.heap.size, 7, none⟩ = some (.int .i64 t) ∧ W.cell? ⟨w5.heap.size, 8, none⟩ = some (.int .i64 sq) ∧ W.cell? ⟨w5.heap.size, 9, none⟩ = some (.int .i64 at_) ∧ W.cell? ⟨w5.heap.size, 10, none⟩ = some (.slice VA10 lg.length lg.length) ∧ W.cell? ⟨w5.heap.size, 11, none⟩ = some (.slice VA11 dt.length dt.length)) (exact HSd.out _ (by first | exact kb | exact ka | exact HDd.out))
    ((first | (go_at_call 12; go_fit (toPager2_any (Ha.out.at (Nat.le_refl _) HEd.out) (Hb.out.at (Nat.le_refl _) HEd.out) (Hc.out.at (Nat.le_refl _) HEd.out) (Hd.out.at (Nat.le_refl _) HEd.out) (Nat.le_refl _) SM.out); rintro e ua ⟨NA0, NA1, NA10, NA11, np1, np2, rfl, oa, ob, oc, od, -, -, -, -, -, -, -, -, ga⟩; have ON0 := Lib.hid oa; have ON1 := Lib.hid ob; have ON10 := Lib.hid oc; have ON11 := Lib.hid od; clear oa ob oc od; have ka : Below w9.heap.size w9 ua := HDd.out.trans ga; have gaa := Lib.hid ga; clear ga) | (go_at_call 14; go_fit (eqPager_any (OT.rit (own_bel OV0_9.out ka) IDa.out) (OU.riu (own_bel OV1_9.out ka) IMa.out) (OG.riu (own_bel OV10_9.out ka) IGa.out) (OG.riu (own_bel OV11_9.out ka) IHa.out) (ON0.out.rit IDa.out) (ON1.out.riu IMa.out) (ON10.out.riu IGa.out) (ON11.out.riu IHa.out) (Nat.le_refl _)); rintro e w10 ⟨rfl, gb⟩; have kb : Below w9.heap.size w9 w10 := ka.trans (gb.mono ka.size); clear gb)))
  try simp only [Exit.then]
  have G10 := Lib.hid kb; have SZ10 : Hid (w9.heap.size ≤ w10.heap.size) := Lib.hid kb.size; clear kb ka gaa
  have F_10 : Hid (w10.heap[w.heap.size]? = some (.cells #[.slice A0 ss.length c0, .slice A1 ps.length c1, .int .i64 fz, .bool off, .int .i64 b, .int .i64 l, .int .i64 q, .int .i64 t, .int .i64 sq, .int .i64 at_, .slice A10 lg.length c10, .slice A11 dt.length c11] 30 (0, 0))) := Lib.hid ((G10.out.block _ (by have s0 := SZ0.out; have s1 := SZ1.out; have s2 := SZ2.out; have s3 := SZ3.out; have s4 := SZ4.out; have s5 := SZ5.out; have s6 := SZ6.out; have s7 := SZ7.out; have s8 := SZ8.out; have s9 := SZ9.out; omega)).trans F_9.out)
  have OZ0_10 : Hid (OT w10 w2.heap.size (.slice ZA0 D.length Zc0) D) := Lib.hid (own_bel OZ0_9.out G10.out)
  have OZ1_10 : Hid (OU w10 w2.heap.size (.slice ZA1 M.length Zc1) M) := Lib.hid (own_bel OZ1_9.out G10.out)
  have OZ10_10 : Hid (OG w10 w2.heap.size (.slice ZA10 G.length Zc10) G) := Lib.hid (own_bel OZ10_9.out G10.out)
  have OZ11_10 : Hid (OG w10 w2.heap.size (.slice ZA11 H.length Zc11) H) := Lib.hid (own_bel OZ11_9.out G10.out)
  have K8_10 : Hid (w10.heap[w3.heap.size]? = some (.cells #[.slice ZA0 D.length Zc0, .slice ZA1 M.length Zc1, .int .i64 fz2, .bool off2, .int .i64 b2, .int .i64 l2, .int .i64 q2, .int .i64 t2, .int .i64 sq2, .int .i64 at2, .slice ZA10 G.length Zc10, .slice ZA11 H.length Zc11] 38 (0, 0))) := Lib.hid ((G10.out.block _ (by have s0 := SZ0.out; have s1 := SZ1.out; have s2 := SZ2.out; have s3 := SZ3.out; have s4 := SZ4.out; have s5 := SZ5.out; have s6 := SZ6.out; have s7 := SZ7.out; have s8 := SZ8.out; have s9 := SZ9.out; omega)).trans K8_9.out)
  have OV0_10 : Hid (OT w10 w4.heap.size (.slice VA0 ss.length ss.length) ss) := Lib.hid (own_bel OV0_9.out G10.out)
  have OV1_10 : Hid (OU w10 w4.heap.size (.slice VA1 ps.length ps.length) ps) := Lib.hid (own_bel OV1_9.out G10.out)
  have OV10_10 : Hid (OG w10 w4.heap.size (.slice VA10 lg.length lg.length) lg) := Lib.hid (own_bel OV10_9.out G10.out)
  have OV11_10 : Hid (OG w10 w4.heap.size (.slice VA11 dt.length dt.length) dt) := Lib.hid (own_bel OV11_9.out G10.out)
  have K10_10 : Hid (w10.heap[w5.heap.size]? = some (.cells #[.slice VA0 ss.length ss.length, .slice VA1 ps.length ps.length, .int .i64 fz, .bool off, .int .i64 b, .int .i64 l, .int .i64 q, .int .i64 t, .int .i64 sq, .int .i64 at_, .slice VA10 lg.length lg.length, .slice VA11 dt.length dt.length] 38 (0, 0))) := Lib.hid ((G10.out.block _ (by have s0 := SZ0.out; have s1 := SZ1.out; have s2 := SZ2.out; have s3 := SZ3.out; have s4 := SZ4.out; have s5 := SZ5.out; have s6 := SZ6.out; have s7 := SZ7.out; have s8 := SZ8.out; have s9 := SZ9.out; omega)).trans K10_9.out)
  have OY0_10 : Hid (OT w10 w6.heap.size (.slice YA0 D.length Yc0) D) := Lib.hid (own_bel OY0_9.out G10.out)
  have OY1_10 : Hid (OU w10 w6.heap.size (.slice YA1 M.length Yc1) M) := Lib.hid (own_bel OY1_9.out G10.out)
  have OY10_10 : Hid (OG w10 w6.heap.size (.slice YA10 G.length Yc10) G) := Lib.hid (own_bel OY10_9.out G10.out)
  have OY11_10 : Hid (OG w10 w6.heap.size (.slice YA11 H.length Yc11) H) := Lib.hid (own_bel OY11_9.out G10.out)
  have K11_10 : Hid (w10.heap[w7.heap.size]? = some (.cells #[.slice YA0 D.length Yc0, .slice YA1 M.length Yc1, .int .i64 fz2, .bool off2, .int .i64 b2, .int .i64 l2, .int .i64 q2, .int .i64 t2, .int .i64 sq2, .int .i64 at2, .slice YA10 G.length Yc10, .slice YA11 H.length Yc11] 38 (0, 0))) := Lib.hid ((G10.out.block _ (by have s0 := SZ0.out; have s1 := SZ1.out; have s2 := SZ2.out; have s3 := SZ3.out; have s4 := SZ4.out; have s5 := SZ5.out; have s6 := SZ6.out; have s7 := SZ7.out; have s8 := SZ8.out; have s9 := SZ9.out; omega)).trans K11_9.out)
  have HB10 : Hid (Below w.heap.size w w10) := Lib.hid (HB9.out.trans (G10.out.mono HB9.out.size))
  go_wp2_with (first | (refine wpList_load_row rfl 30 (.tmp 3) rfl _ rfl 30 _ (0, 0) _ F_10.out Tryz.underlying30 rfl (by kernel_rfl) ?_) | (refine wpList_load_row rfl 38 (.tmp 8) rfl _ rfl 38 _ (0, 0) _ K8_10.out Tryz.underlying38 rfl (by kernel_rfl) ?_) | (refine wpList_load_row rfl 38 (.tmp 10) rfl _ rfl 38 _ (0, 0) _ K10_10.out Tryz.underlying38 rfl (by kernel_rfl) ?_) | (refine wpList_load_row rfl 38 (.tmp 11) rfl _ rfl 38 _ (0, 0) _ K11_10.out Tryz.underlying38 rfl (by kernel_rfl) ?_))
  refine (markPager_any (lo := w4.heap.size) (hi := w5.heap.size) OV0_10.out OV1_10.out OV10_10.out OV11_10.out XV.out IV0.out IV1.out IV10.out IV11.out QV.out.1 QV.out.2.1 QV.out.2.2 (by have s0 := SZ0.out; have s1 := SZ1.out; have s2 := SZ2.out; have s3 := SZ3.out; have s4 := SZ4.out; have s5 := SZ5.out; have s6 := SZ6.out; have s7 := SZ7.out; have s8 := SZ8.out; have s9 := SZ9.out; have s10 := SZ10.out; omega) 1 (by omega) (by have h1 := SM.out.1.1.1; have h2 := SM.out.1.2.1; have h3 := SM.out.2.1.1; have h4 := SM.out.2.2.1; omega)).mono ?_
  rintro e w11 ⟨rfl, mm⟩
  have Mv11 : Hid (Mv w4.heap.size w5.heap.size w10 w11) := Lib.hid mm
  have SZ11 : Hid (w10.heap.size ≤ w11.heap.size) := Lib.hid Mv11.out.2.2.2.1
  have F_11 : Hid (w11.heap[w.heap.size]? = some (.cells #[.slice A0 ss.length c0, .slice A1 ps.length c1, .int .i64 fz, .bool off, .int .i64 b, .int .i64 l, .int .i64 q, .int .i64 t, .int .i64 sq, .int .i64 at_, .slice A10 lg.length c10, .slice A11 dt.length c11] 30 (0, 0))) := Lib.hid ((Mv11.out.2.2.2.2 _ (by have s0 := SZ0.out; have s1 := SZ1.out; have s2 := SZ2.out; have s3 := SZ3.out; have s4 := SZ4.out; have s5 := SZ5.out; have s6 := SZ6.out; have s7 := SZ7.out; have s8 := SZ8.out; have s9 := SZ9.out; have s10 := SZ10.out; omega) (by have s0 := SZ0.out; have s1 := SZ1.out; have s2 := SZ2.out; have s3 := SZ3.out; have s4 := SZ4.out; have s5 := SZ5.out; have s6 := SZ6.out; have s7 := SZ7.out; have s8 := SZ8.out; have s9 := SZ9.out; have s10 := SZ10.out; have s11 := SZ11.out; omega)).trans F_10.out)
  have OZ0_11 : Hid (OT w11 w2.heap.size (.slice ZA0 D.length Zc0) D) := Lib.hid (own_mv OZ0_10.out Mv11.out (fun g hg => by have := KIZ0.out g hg; have s0 := SZ0.out; have s1 := SZ1.out; have s2 := SZ2.out; have s3 := SZ3.out; have s4 := SZ4.out; have s5 := SZ5.out; have s6 := SZ6.out; have s7 := SZ7.out; have s8 := SZ8.out; have s9 := SZ9.out; have s10 := SZ10.out; have s11 := SZ11.out; omega))
  have OZ1_11 : Hid (OU w11 w2.heap.size (.slice ZA1 M.length Zc1) M) := Lib.hid (own_mv OZ1_10.out Mv11.out (fun g hg => by have := KIZ1.out g hg; have s0 := SZ0.out; have s1 := SZ1.out; have s2 := SZ2.out; have s3 := SZ3.out; have s4 := SZ4.out; have s5 := SZ5.out; have s6 := SZ6.out; have s7 := SZ7.out; have s8 := SZ8.out; have s9 := SZ9.out; have s10 := SZ10.out; have s11 := SZ11.out; omega))
  have OZ10_11 : Hid (OG w11 w2.heap.size (.slice ZA10 G.length Zc10) G) := Lib.hid (own_mv OZ10_10.out Mv11.out (fun g hg => by have := KIZ10.out g hg; have s0 := SZ0.out; have s1 := SZ1.out; have s2 := SZ2.out; have s3 := SZ3.out; have s4 := SZ4.out; have s5 := SZ5.out; have s6 := SZ6.out; have s7 := SZ7.out; have s8 := SZ8.out; have s9 := SZ9.out; have s10 := SZ10.out; have s11 := SZ11.out; omega))
  have OZ11_11 : Hid (OG w11 w2.heap.size (.slice ZA11 H.length Zc11) H) := Lib.hid (own_mv OZ11_10.out Mv11.out (fun g hg => by have := KIZ11.out g hg; have s0 := SZ0.out; have s1 := SZ1.out; have s2 := SZ2.out; have s3 := SZ3.out; have s4 := SZ4.out; have s5 := SZ5.out; have s6 := SZ6.out; have s7 := SZ7.out; have s8 := SZ8.out; have s9 := SZ9.out; have s10 := SZ10.out; have s11 := SZ11.out; omega))
  have K8_11 : Hid (w11.heap[w3.heap.size]? = some (.cells #[.slice ZA0 D.length Zc0, .slice ZA1 M.length Zc1, .int .i64 fz2, .bool off2, .int .i64 b2, .int .i64 l2, .int .i64 q2, .int .i64 t2, .int .i64 sq2, .int .i64 at2, .slice ZA10 G.length Zc10, .slice ZA11 H.length Zc11] 38 (0, 0))) := Lib.hid ((Mv11.out.2.2.2.2 _ (by have s0 := SZ0.out; have s1 := SZ1.out; have s2 := SZ2.out; have s3 := SZ3.out; have s4 := SZ4.out; have s5 := SZ5.out; have s6 := SZ6.out; have s7 := SZ7.out; have s8 := SZ8.out; have s9 := SZ9.out; have s10 := SZ10.out; omega) (by have s0 := SZ0.out; have s1 := SZ1.out; have s2 := SZ2.out; have s3 := SZ3.out; have s4 := SZ4.out; have s5 := SZ5.out; have s6 := SZ6.out; have s7 := SZ7.out; have s8 := SZ8.out; have s9 := SZ9.out; have s10 := SZ10.out; have s11 := SZ11.out; omega)).trans K8_10.out)
  have K10_11 : Hid (w11.heap[w5.heap.size]? = some (.cells #[.slice VA0 ss.length ss.length, .slice VA1 ps.length ps.length, .int .i64 fz, .bool off, .int .i64 b, .int .i64 l, .int .i64 q, .int .i64 t, .int .i64 sq, .int .i64 at_, .slice VA10 lg.length lg.length, .slice VA11 dt.length dt.length] 38 (0, 0))) := Lib.hid ((Mv11.out.2.2.2.2 _ (by have s0 := SZ0.out; have s1 := SZ1.out; have s2 := SZ2.out; have s3 := SZ3.out; have s4 := SZ4.out; have s5 := SZ5.out; have s6 := SZ6.out; have s7 := SZ7.out; have s8 := SZ8.out; have s9 := SZ9.out; have s10 := SZ10.out; omega) (by have s0 := SZ0.out; have s1 := SZ1.out; have s2 := SZ2.out; have s3 := SZ3.out; have s4 := SZ4.out; have s5 := SZ5.out; have s6 := SZ6.out; have s7 := SZ7.out; have s8 := SZ8.out; have s9 := SZ9.out; have s10 := SZ10.out; have s11 := SZ11.out; omega)).trans K10_10.out)
  have OY0_11 : Hid (OT w11 w6.heap.size (.slice YA0 D.length Yc0) D) := Lib.hid (own_mv OY0_10.out Mv11.out (fun g hg => by have := KIY0.out g hg; have s0 := SZ0.out; have s1 := SZ1.out; have s2 := SZ2.out; have s3 := SZ3.out; have s4 := SZ4.out; have s5 := SZ5.out; have s6 := SZ6.out; have s7 := SZ7.out; have s8 := SZ8.out; have s9 := SZ9.out; have s10 := SZ10.out; have s11 := SZ11.out; omega))
  have OY1_11 : Hid (OU w11 w6.heap.size (.slice YA1 M.length Yc1) M) := Lib.hid (own_mv OY1_10.out Mv11.out (fun g hg => by have := KIY1.out g hg; have s0 := SZ0.out; have s1 := SZ1.out; have s2 := SZ2.out; have s3 := SZ3.out; have s4 := SZ4.out; have s5 := SZ5.out; have s6 := SZ6.out; have s7 := SZ7.out; have s8 := SZ8.out; have s9 := SZ9.out; have s10 := SZ10.out; have s11 := SZ11.out; omega))
  have OY10_11 : Hid (OG w11 w6.heap.size (.slice YA10 G.length Yc10) G) := Lib.hid (own_mv OY10_10.out Mv11.out (fun g hg => by have := KIY10.out g hg; have s0 := SZ0.out; have s1 := SZ1.out; have s2 := SZ2.out; have s3 := SZ3.out; have s4 := SZ4.out; have s5 := SZ5.out; have s6 := SZ6.out; have s7 := SZ7.out; have s8 := SZ8.out; have s9 := SZ9.out; have s10 := SZ10.out; have s11 := SZ11.out; omega))
  have OY11_11 : Hid (OG w11 w6.heap.size (.slice YA11 H.length Yc11) H) := Lib.hid (own_mv OY11_10.out Mv11.out (fun g hg => by have := KIY11.out g hg; have s0 := SZ0.out; have s1 := SZ1.out; have s2 := SZ2.out; have s3 := SZ3.out; have s4 := SZ4.out; have s5 := SZ5.out; have s6 := SZ6.out; have s7 := SZ7.out; have s8 := SZ8.out; have s9 := SZ9.out; have s10 := SZ10.out; have s11 := SZ11.out; omega))
  have K11_11 : Hid (w11.heap[w7.heap.size]? = some (.cells #[.slice YA0 D.length Yc0, .slice YA1 M.length Yc1, .int .i64 fz2, .bool off2, .int .i64 b2, .int .i64 l2, .int .i64 q2, .int .i64 t2, .int .i64 sq2, .int .i64 at2, .slice YA10 G.length Yc10, .slice YA11 H.length Yc11] 38 (0, 0))) := Lib.hid ((Mv11.out.2.2.2.2 _ (by have s0 := SZ0.out; have s1 := SZ1.out; have s2 := SZ2.out; have s3 := SZ3.out; have s4 := SZ4.out; have s5 := SZ5.out; have s6 := SZ6.out; have s7 := SZ7.out; have s8 := SZ8.out; have s9 := SZ9.out; have s10 := SZ10.out; omega) (by have s0 := SZ0.out; have s1 := SZ1.out; have s2 := SZ2.out; have s3 := SZ3.out; have s4 := SZ4.out; have s5 := SZ5.out; have s6 := SZ6.out; have s7 := SZ7.out; have s8 := SZ8.out; have s9 := SZ9.out; have s10 := SZ10.out; have s11 := SZ11.out; omega)).trans K11_10.out)
  have HB11 : Hid (Below w.heap.size w w11) := Lib.hid (Mv11.out.below HB10.out (by have s0 := SZ0.out; have s1 := SZ1.out; have s2 := SZ2.out; have s3 := SZ3.out; have s4 := SZ4.out; have s5 := SZ5.out; have s6 := SZ6.out; have s7 := SZ7.out; have s8 := SZ8.out; have s9 := SZ9.out; have s10 := SZ10.out; have s11 := SZ11.out; omega) HB10.out.size)
  have neg1 : ¬ (((1 + ss.length + 2 * ps.length + 2 * lg.length + 2 * dt.length : Nat) : Int) < 0) := by omega
  go_wp2_with (first | (refine wpList_load_row rfl 30 (.tmp 3) rfl _ rfl 30 _ (0, 0) _ F_11.out Tryz.underlying30 rfl (by kernel_rfl) ?_) | (refine wpList_load_row rfl 38 (.tmp 8) rfl _ rfl 38 _ (0, 0) _ K8_11.out Tryz.underlying38 rfl (by kernel_rfl) ?_) | (refine wpList_load_row rfl 38 (.tmp 10) rfl _ rfl 38 _ (0, 0) _ K10_11.out Tryz.underlying38 rfl (by kernel_rfl) ?_) | (refine wpList_load_row rfl 38 (.tmp 11) rfl _ rfl 38 _ (0, 0) _ K11_11.out Tryz.underlying38 rfl (by kernel_rfl) ?_) | (refine wpList_load_on rfl 30 (.tmp 3) rfl _ rfl _ (run_loadVar_row _ _ 30 30 _ (0, 0) _ F_11.out Tryz.underlying30 rfl (by kernel_rfl)) ?_) | (refine wpList_load_on rfl 38 (.tmp 8) rfl _ rfl _ (run_loadVar_row _ _ 38 38 _ (0, 0) _ K8_11.out Tryz.underlying38 rfl (by kernel_rfl)) ?_) | (refine wpList_load_on rfl 38 (.tmp 10) rfl _ rfl _ (run_loadVar_row _ _ 38 38 _ (0, 0) _ K10_11.out Tryz.underlying38 rfl (by kernel_rfl)) ?_) | (refine wpList_load_on rfl 38 (.tmp 11) rfl _ rfl _ (run_loadVar_row _ _ 38 38 _ (0, 0) _ K11_11.out Tryz.underlying38 rfl (by kernel_rfl)) ?_))
  refine (eqPager_any (OY0_11.out.rit ID.out) (OY1_11.out.riu IM.out) (OY10_11.out.riu IG.out) (OY11_11.out.riu IH.out) (OZ0_11.out.rit ID.out) (OZ1_11.out.riu IM.out) (OZ10_11.out.riu IG.out) (OZ11_11.out.riu IH.out) (Nat.le_refl _)).mono ?_
  rintro e w12 ⟨rfl, g⟩
  have G12 := Lib.hid g; have SZ12 : Hid (w11.heap.size ≤ w12.heap.size) := Lib.hid g.size; clear g
  have F_12 : Hid (w12.heap[w.heap.size]? = some (.cells #[.slice A0 ss.length c0, .slice A1 ps.length c1, .int .i64 fz, .bool off, .int .i64 b, .int .i64 l, .int .i64 q, .int .i64 t, .int .i64 sq, .int .i64 at_, .slice A10 lg.length c10, .slice A11 dt.length c11] 30 (0, 0))) := Lib.hid ((G12.out.block _ (by have s0 := SZ0.out; have s1 := SZ1.out; have s2 := SZ2.out; have s3 := SZ3.out; have s4 := SZ4.out; have s5 := SZ5.out; have s6 := SZ6.out; have s7 := SZ7.out; have s8 := SZ8.out; have s9 := SZ9.out; have s10 := SZ10.out; have s11 := SZ11.out; omega)).trans F_11.out)
  have OZ0_12 : Hid (OT w12 w2.heap.size (.slice ZA0 D.length Zc0) D) := Lib.hid (own_bel OZ0_11.out G12.out)
  have OZ1_12 : Hid (OU w12 w2.heap.size (.slice ZA1 M.length Zc1) M) := Lib.hid (own_bel OZ1_11.out G12.out)
  have OZ10_12 : Hid (OG w12 w2.heap.size (.slice ZA10 G.length Zc10) G) := Lib.hid (own_bel OZ10_11.out G12.out)
  have OZ11_12 : Hid (OG w12 w2.heap.size (.slice ZA11 H.length Zc11) H) := Lib.hid (own_bel OZ11_11.out G12.out)
  have K8_12 : Hid (w12.heap[w3.heap.size]? = some (.cells #[.slice ZA0 D.length Zc0, .slice ZA1 M.length Zc1, .int .i64 fz2, .bool off2, .int .i64 b2, .int .i64 l2, .int .i64 q2, .int .i64 t2, .int .i64 sq2, .int .i64 at2, .slice ZA10 G.length Zc10, .slice ZA11 H.length Zc11] 38 (0, 0))) := Lib.hid ((G12.out.block _ (by have s0 := SZ0.out; have s1 := SZ1.out; have s2 := SZ2.out; have s3 := SZ3.out; have s4 := SZ4.out; have s5 := SZ5.out; have s6 := SZ6.out; have s7 := SZ7.out; have s8 := SZ8.out; have s9 := SZ9.out; have s10 := SZ10.out; have s11 := SZ11.out; omega)).trans K8_11.out)
  have K10_12 : Hid (w12.heap[w5.heap.size]? = some (.cells #[.slice VA0 ss.length ss.length, .slice VA1 ps.length ps.length, .int .i64 fz, .bool off, .int .i64 b, .int .i64 l, .int .i64 q, .int .i64 t, .int .i64 sq, .int .i64 at_, .slice VA10 lg.length lg.length, .slice VA11 dt.length dt.length] 38 (0, 0))) := Lib.hid ((G12.out.block _ (by have s0 := SZ0.out; have s1 := SZ1.out; have s2 := SZ2.out; have s3 := SZ3.out; have s4 := SZ4.out; have s5 := SZ5.out; have s6 := SZ6.out; have s7 := SZ7.out; have s8 := SZ8.out; have s9 := SZ9.out; have s10 := SZ10.out; have s11 := SZ11.out; omega)).trans K10_11.out)
  have OY0_12 : Hid (OT w12 w6.heap.size (.slice YA0 D.length Yc0) D) := Lib.hid (own_bel OY0_11.out G12.out)
  have OY1_12 : Hid (OU w12 w6.heap.size (.slice YA1 M.length Yc1) M) := Lib.hid (own_bel OY1_11.out G12.out)
  have OY10_12 : Hid (OG w12 w6.heap.size (.slice YA10 G.length Yc10) G) := Lib.hid (own_bel OY10_11.out G12.out)
  have OY11_12 : Hid (OG w12 w6.heap.size (.slice YA11 H.length Yc11) H) := Lib.hid (own_bel OY11_11.out G12.out)
  have K11_12 : Hid (w12.heap[w7.heap.size]? = some (.cells #[.slice YA0 D.length Yc0, .slice YA1 M.length Yc1, .int .i64 fz2, .bool off2, .int .i64 b2, .int .i64 l2, .int .i64 q2, .int .i64 t2, .int .i64 sq2, .int .i64 at2, .slice YA10 G.length Yc10, .slice YA11 H.length Yc11] 38 (0, 0))) := Lib.hid ((G12.out.block _ (by have s0 := SZ0.out; have s1 := SZ1.out; have s2 := SZ2.out; have s3 := SZ3.out; have s4 := SZ4.out; have s5 := SZ5.out; have s6 := SZ6.out; have s7 := SZ7.out; have s8 := SZ8.out; have s9 := SZ9.out; have s10 := SZ10.out; have s11 := SZ11.out; omega)).trans K11_11.out)
  have HB12 : Hid (Below w.heap.size w w12) := Lib.hid (HB11.out.trans (G12.out.mono HB11.out.size))
  go_wp2_with (first | (refine wpList_load_row rfl 30 (.tmp 3) rfl _ rfl 30 _ (0, 0) _ F_12.out Tryz.underlying30 rfl (by kernel_rfl) ?_) | (refine wpList_load_row rfl 38 (.tmp 8) rfl _ rfl 38 _ (0, 0) _ K8_12.out Tryz.underlying38 rfl (by kernel_rfl) ?_) | (refine wpList_load_row rfl 38 (.tmp 10) rfl _ rfl 38 _ (0, 0) _ K10_12.out Tryz.underlying38 rfl (by kernel_rfl) ?_) | (refine wpList_load_row rfl 38 (.tmp 11) rfl _ rfl 38 _ (0, 0) _ K11_12.out Tryz.underlying38 rfl (by kernel_rfl) ?_))
  refine (markPagerO_any (lo := w6.heap.size) (hi := hiY) OY0_12.out OY1_12.out OY10_12.out OY11_12.out (OT.ap OY0_12.out OY1_12.out) IY0.out IY1.out IY10.out IY11.out QY.out.1 QY.out.2.1 QY.out.2.2.1 (by have := QY.out.2.2.2; have s0 := SZ0.out; have s1 := SZ1.out; have s2 := SZ2.out; have s3 := SZ3.out; have s4 := SZ4.out; have s5 := SZ5.out; have s6 := SZ6.out; have s7 := SZ7.out; have s8 := SZ8.out; have s9 := SZ9.out; have s10 := SZ10.out; have s11 := SZ11.out; have s12 := SZ12.out; have qy := QY.out; omega) 1 (by omega) (by have h1 := LN.out; omega)).mono ?_
  rintro e w13 ⟨rfl, oa, ob, oc, od, mm⟩
  have Mv13 : Hid (Mv w6.heap.size hiY w12 w13) := Lib.hid mm
  have SZ13 : Hid (w12.heap.size ≤ w13.heap.size) := Lib.hid Mv13.out.2.2.2.1
  have F_13 : Hid (w13.heap[w.heap.size]? = some (.cells #[.slice A0 ss.length c0, .slice A1 ps.length c1, .int .i64 fz, .bool off, .int .i64 b, .int .i64 l, .int .i64 q, .int .i64 t, .int .i64 sq, .int .i64 at_, .slice A10 lg.length c10, .slice A11 dt.length c11] 30 (0, 0))) := Lib.hid ((Mv13.out.2.2.2.2 _ (by have s0 := SZ0.out; have s1 := SZ1.out; have s2 := SZ2.out; have s3 := SZ3.out; have s4 := SZ4.out; have s5 := SZ5.out; have s6 := SZ6.out; have s7 := SZ7.out; have s8 := SZ8.out; have s9 := SZ9.out; have s10 := SZ10.out; have s11 := SZ11.out; have s12 := SZ12.out; have qy := QY.out; omega) (by have s0 := SZ0.out; have s1 := SZ1.out; have s2 := SZ2.out; have s3 := SZ3.out; have s4 := SZ4.out; have s5 := SZ5.out; have s6 := SZ6.out; have s7 := SZ7.out; have s8 := SZ8.out; have s9 := SZ9.out; have s10 := SZ10.out; have s11 := SZ11.out; have s12 := SZ12.out; have s13 := SZ13.out; have qy := QY.out; omega)).trans F_12.out)
  have OZ0_13 : Hid (OT w13 w2.heap.size (.slice ZA0 D.length Zc0) D) := Lib.hid (own_mv OZ0_12.out Mv13.out (fun g hg => by have := KIZ0.out g hg; have s0 := SZ0.out; have s1 := SZ1.out; have s2 := SZ2.out; have s3 := SZ3.out; have s4 := SZ4.out; have s5 := SZ5.out; have s6 := SZ6.out; have s7 := SZ7.out; have s8 := SZ8.out; have s9 := SZ9.out; have s10 := SZ10.out; have s11 := SZ11.out; have s12 := SZ12.out; have s13 := SZ13.out; have qy := QY.out; omega))
  have OZ1_13 : Hid (OU w13 w2.heap.size (.slice ZA1 M.length Zc1) M) := Lib.hid (own_mv OZ1_12.out Mv13.out (fun g hg => by have := KIZ1.out g hg; have s0 := SZ0.out; have s1 := SZ1.out; have s2 := SZ2.out; have s3 := SZ3.out; have s4 := SZ4.out; have s5 := SZ5.out; have s6 := SZ6.out; have s7 := SZ7.out; have s8 := SZ8.out; have s9 := SZ9.out; have s10 := SZ10.out; have s11 := SZ11.out; have s12 := SZ12.out; have s13 := SZ13.out; have qy := QY.out; omega))
  have OZ10_13 : Hid (OG w13 w2.heap.size (.slice ZA10 G.length Zc10) G) := Lib.hid (own_mv OZ10_12.out Mv13.out (fun g hg => by have := KIZ10.out g hg; have s0 := SZ0.out; have s1 := SZ1.out; have s2 := SZ2.out; have s3 := SZ3.out; have s4 := SZ4.out; have s5 := SZ5.out; have s6 := SZ6.out; have s7 := SZ7.out; have s8 := SZ8.out; have s9 := SZ9.out; have s10 := SZ10.out; have s11 := SZ11.out; have s12 := SZ12.out; have s13 := SZ13.out; have qy := QY.out; omega))
  have OZ11_13 : Hid (OG w13 w2.heap.size (.slice ZA11 H.length Zc11) H) := Lib.hid (own_mv OZ11_12.out Mv13.out (fun g hg => by have := KIZ11.out g hg; have s0 := SZ0.out; have s1 := SZ1.out; have s2 := SZ2.out; have s3 := SZ3.out; have s4 := SZ4.out; have s5 := SZ5.out; have s6 := SZ6.out; have s7 := SZ7.out; have s8 := SZ8.out; have s9 := SZ9.out; have s10 := SZ10.out; have s11 := SZ11.out; have s12 := SZ12.out; have s13 := SZ13.out; have qy := QY.out; omega))
  have K8_13 : Hid (w13.heap[w3.heap.size]? = some (.cells #[.slice ZA0 D.length Zc0, .slice ZA1 M.length Zc1, .int .i64 fz2, .bool off2, .int .i64 b2, .int .i64 l2, .int .i64 q2, .int .i64 t2, .int .i64 sq2, .int .i64 at2, .slice ZA10 G.length Zc10, .slice ZA11 H.length Zc11] 38 (0, 0))) := Lib.hid ((Mv13.out.2.2.2.2 _ (by have s0 := SZ0.out; have s1 := SZ1.out; have s2 := SZ2.out; have s3 := SZ3.out; have s4 := SZ4.out; have s5 := SZ5.out; have s6 := SZ6.out; have s7 := SZ7.out; have s8 := SZ8.out; have s9 := SZ9.out; have s10 := SZ10.out; have s11 := SZ11.out; have s12 := SZ12.out; have qy := QY.out; omega) (by have s0 := SZ0.out; have s1 := SZ1.out; have s2 := SZ2.out; have s3 := SZ3.out; have s4 := SZ4.out; have s5 := SZ5.out; have s6 := SZ6.out; have s7 := SZ7.out; have s8 := SZ8.out; have s9 := SZ9.out; have s10 := SZ10.out; have s11 := SZ11.out; have s12 := SZ12.out; have s13 := SZ13.out; have qy := QY.out; omega)).trans K8_12.out)
  have K10_13 : Hid (w13.heap[w5.heap.size]? = some (.cells #[.slice VA0 ss.length ss.length, .slice VA1 ps.length ps.length, .int .i64 fz, .bool off, .int .i64 b, .int .i64 l, .int .i64 q, .int .i64 t, .int .i64 sq, .int .i64 at_, .slice VA10 lg.length lg.length, .slice VA11 dt.length dt.length] 38 (0, 0))) := Lib.hid ((Mv13.out.2.2.2.2 _ (by have s0 := SZ0.out; have s1 := SZ1.out; have s2 := SZ2.out; have s3 := SZ3.out; have s4 := SZ4.out; have s5 := SZ5.out; have s6 := SZ6.out; have s7 := SZ7.out; have s8 := SZ8.out; have s9 := SZ9.out; have s10 := SZ10.out; have s11 := SZ11.out; have s12 := SZ12.out; have qy := QY.out; omega) (by have s0 := SZ0.out; have s1 := SZ1.out; have s2 := SZ2.out; have s3 := SZ3.out; have s4 := SZ4.out; have s5 := SZ5.out; have s6 := SZ6.out; have s7 := SZ7.out; have s8 := SZ8.out; have s9 := SZ9.out; have s10 := SZ10.out; have s11 := SZ11.out; have s12 := SZ12.out; have s13 := SZ13.out; have qy := QY.out; omega)).trans K10_12.out)
  have K11_13 : Hid (w13.heap[w7.heap.size]? = some (.cells #[.slice YA0 D.length Yc0, .slice YA1 M.length Yc1, .int .i64 fz2, .bool off2, .int .i64 b2, .int .i64 l2, .int .i64 q2, .int .i64 t2, .int .i64 sq2, .int .i64 at2, .slice YA10 G.length Yc10, .slice YA11 H.length Yc11] 38 (0, 0))) := Lib.hid ((Mv13.out.2.2.2.2 _ (by have s0 := SZ0.out; have s1 := SZ1.out; have s2 := SZ2.out; have s3 := SZ3.out; have s4 := SZ4.out; have s5 := SZ5.out; have s6 := SZ6.out; have s7 := SZ7.out; have s8 := SZ8.out; have s9 := SZ9.out; have s10 := SZ10.out; have s11 := SZ11.out; have s12 := SZ12.out; have qy := QY.out; omega) (by have s0 := SZ0.out; have s1 := SZ1.out; have s2 := SZ2.out; have s3 := SZ3.out; have s4 := SZ4.out; have s5 := SZ5.out; have s6 := SZ6.out; have s7 := SZ7.out; have s8 := SZ8.out; have s9 := SZ9.out; have s10 := SZ10.out; have s11 := SZ11.out; have s12 := SZ12.out; have s13 := SZ13.out; have qy := QY.out; omega)).trans K11_12.out)
  have HB13 : Hid (Below w.heap.size w w13) := Lib.hid (Mv13.out.below HB12.out (by have s0 := SZ0.out; have s1 := SZ1.out; have s2 := SZ2.out; have s3 := SZ3.out; have s4 := SZ4.out; have s5 := SZ5.out; have s6 := SZ6.out; have s7 := SZ7.out; have s8 := SZ8.out; have s9 := SZ9.out; have s10 := SZ10.out; have s11 := SZ11.out; have s12 := SZ12.out; have s13 := SZ13.out; have qy := QY.out; omega) HB12.out.size)
  have OY0_13 : Hid (OT w13 w6.heap.size (.slice YA0 D.length Yc0) (marksT 1 D.length)) := Lib.hid oa
  have OY1_13 : Hid (OU w13 w6.heap.size (.slice YA1 M.length Yc1) (marksU (1 + D.length) M.length)) := Lib.hid ob
  have OY10_13 : Hid (OG w13 w6.heap.size (.slice YA10 G.length Yc10) (marksU (1 + D.length + 2 * M.length) G.length)) := Lib.hid oc
  have OY11_13 : Hid (OG w13 w6.heap.size (.slice YA11 H.length Yc11) (marksU (1 + D.length + 2 * M.length + 2 * G.length) H.length)) := Lib.hid od
  clear oa ob oc od
  have neg2 : ¬ (((1 + D.length + 2 * M.length + 2 * G.length + 2 * H.length : Nat) : Int) < 0) := by omega
  go_wp2_with (first | (refine wpList_load_row rfl 30 (.tmp 3) rfl _ rfl 30 _ (0, 0) _ F_13.out Tryz.underlying30 rfl (by kernel_rfl) ?_) | (refine wpList_load_row rfl 38 (.tmp 8) rfl _ rfl 38 _ (0, 0) _ K8_13.out Tryz.underlying38 rfl (by kernel_rfl) ?_) | (refine wpList_load_row rfl 38 (.tmp 10) rfl _ rfl 38 _ (0, 0) _ K10_13.out Tryz.underlying38 rfl (by kernel_rfl) ?_) | (refine wpList_load_row rfl 38 (.tmp 11) rfl _ rfl 38 _ (0, 0) _ K11_13.out Tryz.underlying38 rfl (by kernel_rfl) ?_))
  refine (heldPager_any 1 OY0_13.out OY1_13.out OY10_13.out OY11_13.out (by omega) (by have h1 := LN.out; omega)).mono ?_
  rintro e w14 ⟨rfl, g⟩
  have G14 := Lib.hid g; have SZ14 : Hid (w13.heap.size ≤ w14.heap.size) := Lib.hid g.size; clear g
  have F_14 : Hid (w14.heap[w.heap.size]? = some (.cells #[.slice A0 ss.length c0, .slice A1 ps.length c1, .int .i64 fz, .bool off, .int .i64 b, .int .i64 l, .int .i64 q, .int .i64 t, .int .i64 sq, .int .i64 at_, .slice A10 lg.length c10, .slice A11 dt.length c11] 30 (0, 0))) := Lib.hid ((G14.out.block _ (by have s0 := SZ0.out; have s1 := SZ1.out; have s2 := SZ2.out; have s3 := SZ3.out; have s4 := SZ4.out; have s5 := SZ5.out; have s6 := SZ6.out; have s7 := SZ7.out; have s8 := SZ8.out; have s9 := SZ9.out; have s10 := SZ10.out; have s11 := SZ11.out; have s12 := SZ12.out; have s13 := SZ13.out; have qy := QY.out; omega)).trans F_13.out)
  have OZ0_14 : Hid (OT w14 w2.heap.size (.slice ZA0 D.length Zc0) D) := Lib.hid (own_bel OZ0_13.out G14.out)
  have OZ1_14 : Hid (OU w14 w2.heap.size (.slice ZA1 M.length Zc1) M) := Lib.hid (own_bel OZ1_13.out G14.out)
  have OZ10_14 : Hid (OG w14 w2.heap.size (.slice ZA10 G.length Zc10) G) := Lib.hid (own_bel OZ10_13.out G14.out)
  have OZ11_14 : Hid (OG w14 w2.heap.size (.slice ZA11 H.length Zc11) H) := Lib.hid (own_bel OZ11_13.out G14.out)
  have K8_14 : Hid (w14.heap[w3.heap.size]? = some (.cells #[.slice ZA0 D.length Zc0, .slice ZA1 M.length Zc1, .int .i64 fz2, .bool off2, .int .i64 b2, .int .i64 l2, .int .i64 q2, .int .i64 t2, .int .i64 sq2, .int .i64 at2, .slice ZA10 G.length Zc10, .slice ZA11 H.length Zc11] 38 (0, 0))) := Lib.hid ((G14.out.block _ (by have s0 := SZ0.out; have s1 := SZ1.out; have s2 := SZ2.out; have s3 := SZ3.out; have s4 := SZ4.out; have s5 := SZ5.out; have s6 := SZ6.out; have s7 := SZ7.out; have s8 := SZ8.out; have s9 := SZ9.out; have s10 := SZ10.out; have s11 := SZ11.out; have s12 := SZ12.out; have s13 := SZ13.out; have qy := QY.out; omega)).trans K8_13.out)
  have K10_14 : Hid (w14.heap[w5.heap.size]? = some (.cells #[.slice VA0 ss.length ss.length, .slice VA1 ps.length ps.length, .int .i64 fz, .bool off, .int .i64 b, .int .i64 l, .int .i64 q, .int .i64 t, .int .i64 sq, .int .i64 at_, .slice VA10 lg.length lg.length, .slice VA11 dt.length dt.length] 38 (0, 0))) := Lib.hid ((G14.out.block _ (by have s0 := SZ0.out; have s1 := SZ1.out; have s2 := SZ2.out; have s3 := SZ3.out; have s4 := SZ4.out; have s5 := SZ5.out; have s6 := SZ6.out; have s7 := SZ7.out; have s8 := SZ8.out; have s9 := SZ9.out; have s10 := SZ10.out; have s11 := SZ11.out; have s12 := SZ12.out; have s13 := SZ13.out; have qy := QY.out; omega)).trans K10_13.out)
  have K11_14 : Hid (w14.heap[w7.heap.size]? = some (.cells #[.slice YA0 D.length Yc0, .slice YA1 M.length Yc1, .int .i64 fz2, .bool off2, .int .i64 b2, .int .i64 l2, .int .i64 q2, .int .i64 t2, .int .i64 sq2, .int .i64 at2, .slice YA10 G.length Yc10, .slice YA11 H.length Yc11] 38 (0, 0))) := Lib.hid ((G14.out.block _ (by have s0 := SZ0.out; have s1 := SZ1.out; have s2 := SZ2.out; have s3 := SZ3.out; have s4 := SZ4.out; have s5 := SZ5.out; have s6 := SZ6.out; have s7 := SZ7.out; have s8 := SZ8.out; have s9 := SZ9.out; have s10 := SZ10.out; have s11 := SZ11.out; have s12 := SZ12.out; have s13 := SZ13.out; have qy := QY.out; omega)).trans K11_13.out)
  have OY0_14 : Hid (OT w14 w6.heap.size (.slice YA0 D.length Yc0) (marksT 1 D.length)) := Lib.hid (own_bel OY0_13.out G14.out)
  have OY1_14 : Hid (OU w14 w6.heap.size (.slice YA1 M.length Yc1) (marksU (1 + D.length) M.length)) := Lib.hid (own_bel OY1_13.out G14.out)
  have OY10_14 : Hid (OG w14 w6.heap.size (.slice YA10 G.length Yc10) (marksU (1 + D.length + 2 * M.length) G.length)) := Lib.hid (own_bel OY10_13.out G14.out)
  have OY11_14 : Hid (OG w14 w6.heap.size (.slice YA11 H.length Yc11) (marksU (1 + D.length + 2 * M.length + 2 * G.length) H.length)) := Lib.hid (own_bel OY11_13.out G14.out)
  have HB14 : Hid (Below w.heap.size w w14) := Lib.hid (HB13.out.trans (G14.out.mono HB13.out.size))
  go_wp2_with (first | (refine wpList_load_row rfl 30 (.tmp 3) rfl _ rfl 30 _ (0, 0) _ F_14.out Tryz.underlying30 rfl (by kernel_rfl) ?_) | (refine wpList_load_row rfl 38 (.tmp 8) rfl _ rfl 38 _ (0, 0) _ K8_14.out Tryz.underlying38 rfl (by kernel_rfl) ?_) | (refine wpList_load_row rfl 38 (.tmp 10) rfl _ rfl 38 _ (0, 0) _ K10_14.out Tryz.underlying38 rfl (by kernel_rfl) ?_) | (refine wpList_load_row rfl 38 (.tmp 11) rfl _ rfl 38 _ (0, 0) _ K11_14.out Tryz.underlying38 rfl (by kernel_rfl) ?_))
  refine (toPager2_any (Ha.out.at (Nat.le_refl _) HB14.out) (Hb.out.at (Nat.le_refl _) HB14.out) (Hc.out.at (Nat.le_refl _) HB14.out) (Hd.out.at (Nat.le_refl _) HB14.out) (Nat.le_refl _) SM.out).mono ?_
  rintro e w15 ⟨EA0, EA1, EA10, EA11, p1E, p2E, rfl, oa, ob, oc, od, ap, ia, ib, ic, id, r0, r1, r2, g⟩
  have G15 := Lib.hid g; have SZ15 : Hid (w14.heap.size ≤ w15.heap.size) := Lib.hid g.size; clear g
  have F_15 : Hid (w15.heap[w.heap.size]? = some (.cells #[.slice A0 ss.length c0, .slice A1 ps.length c1, .int .i64 fz, .bool off, .int .i64 b, .int .i64 l, .int .i64 q, .int .i64 t, .int .i64 sq, .int .i64 at_, .slice A10 lg.length c10, .slice A11 dt.length c11] 30 (0, 0))) := Lib.hid ((G15.out.block _ (by have s0 := SZ0.out; have s1 := SZ1.out; have s2 := SZ2.out; have s3 := SZ3.out; have s4 := SZ4.out; have s5 := SZ5.out; have s6 := SZ6.out; have s7 := SZ7.out; have s8 := SZ8.out; have s9 := SZ9.out; have s10 := SZ10.out; have s11 := SZ11.out; have s12 := SZ12.out; have s13 := SZ13.out; have s14 := SZ14.out; have qy := QY.out; omega)).trans F_14.out)
  have OZ0_15 : Hid (OT w15 w2.heap.size (.slice ZA0 D.length Zc0) D) := Lib.hid (own_bel OZ0_14.out G15.out)
  have OZ1_15 : Hid (OU w15 w2.heap.size (.slice ZA1 M.length Zc1) M) := Lib.hid (own_bel OZ1_14.out G15.out)
  have OZ10_15 : Hid (OG w15 w2.heap.size (.slice ZA10 G.length Zc10) G) := Lib.hid (own_bel OZ10_14.out G15.out)
  have OZ11_15 : Hid (OG w15 w2.heap.size (.slice ZA11 H.length Zc11) H) := Lib.hid (own_bel OZ11_14.out G15.out)
  have K8_15 : Hid (w15.heap[w3.heap.size]? = some (.cells #[.slice ZA0 D.length Zc0, .slice ZA1 M.length Zc1, .int .i64 fz2, .bool off2, .int .i64 b2, .int .i64 l2, .int .i64 q2, .int .i64 t2, .int .i64 sq2, .int .i64 at2, .slice ZA10 G.length Zc10, .slice ZA11 H.length Zc11] 38 (0, 0))) := Lib.hid ((G15.out.block _ (by have s0 := SZ0.out; have s1 := SZ1.out; have s2 := SZ2.out; have s3 := SZ3.out; have s4 := SZ4.out; have s5 := SZ5.out; have s6 := SZ6.out; have s7 := SZ7.out; have s8 := SZ8.out; have s9 := SZ9.out; have s10 := SZ10.out; have s11 := SZ11.out; have s12 := SZ12.out; have s13 := SZ13.out; have s14 := SZ14.out; have qy := QY.out; omega)).trans K8_14.out)
  have K10_15 : Hid (w15.heap[w5.heap.size]? = some (.cells #[.slice VA0 ss.length ss.length, .slice VA1 ps.length ps.length, .int .i64 fz, .bool off, .int .i64 b, .int .i64 l, .int .i64 q, .int .i64 t, .int .i64 sq, .int .i64 at_, .slice VA10 lg.length lg.length, .slice VA11 dt.length dt.length] 38 (0, 0))) := Lib.hid ((G15.out.block _ (by have s0 := SZ0.out; have s1 := SZ1.out; have s2 := SZ2.out; have s3 := SZ3.out; have s4 := SZ4.out; have s5 := SZ5.out; have s6 := SZ6.out; have s7 := SZ7.out; have s8 := SZ8.out; have s9 := SZ9.out; have s10 := SZ10.out; have s11 := SZ11.out; have s12 := SZ12.out; have s13 := SZ13.out; have s14 := SZ14.out; have qy := QY.out; omega)).trans K10_14.out)
  have K11_15 : Hid (w15.heap[w7.heap.size]? = some (.cells #[.slice YA0 D.length Yc0, .slice YA1 M.length Yc1, .int .i64 fz2, .bool off2, .int .i64 b2, .int .i64 l2, .int .i64 q2, .int .i64 t2, .int .i64 sq2, .int .i64 at2, .slice YA10 G.length Yc10, .slice YA11 H.length Yc11] 38 (0, 0))) := Lib.hid ((G15.out.block _ (by have s0 := SZ0.out; have s1 := SZ1.out; have s2 := SZ2.out; have s3 := SZ3.out; have s4 := SZ4.out; have s5 := SZ5.out; have s6 := SZ6.out; have s7 := SZ7.out; have s8 := SZ8.out; have s9 := SZ9.out; have s10 := SZ10.out; have s11 := SZ11.out; have s12 := SZ12.out; have s13 := SZ13.out; have s14 := SZ14.out; have qy := QY.out; omega)).trans K11_14.out)
  have OY0_15 : Hid (OT w15 w6.heap.size (.slice YA0 D.length Yc0) (marksT 1 D.length)) := Lib.hid (own_bel OY0_14.out G15.out)
  have OY1_15 : Hid (OU w15 w6.heap.size (.slice YA1 M.length Yc1) (marksU (1 + D.length) M.length)) := Lib.hid (own_bel OY1_14.out G15.out)
  have OY10_15 : Hid (OG w15 w6.heap.size (.slice YA10 G.length Yc10) (marksU (1 + D.length + 2 * M.length) G.length)) := Lib.hid (own_bel OY10_14.out G15.out)
  have OY11_15 : Hid (OG w15 w6.heap.size (.slice YA11 H.length Yc11) (marksU (1 + D.length + 2 * M.length + 2 * G.length) H.length)) := Lib.hid (own_bel OY11_14.out G15.out)
  have HB15 : Hid (Below w.heap.size w w15) := Lib.hid (HB14.out.trans (G15.out.mono HB14.out.size))
  have OE0_15 : Hid (OT w15 w14.heap.size (.slice EA0 ss.length ss.length) ss) := Lib.hid oa
  have OE1_15 : Hid (OU w15 w14.heap.size (.slice EA1 ps.length ps.length) ps) := Lib.hid ob
  have OE10_15 : Hid (OG w15 w14.heap.size (.slice EA10 lg.length lg.length) lg) := Lib.hid oc
  have OE11_15 : Hid (OG w15 w14.heap.size (.slice EA11 dt.length dt.length) dt) := Lib.hid od
  have KIE0 := Lib.hid (own_wi OE0_15.out)
  have KIE1 := Lib.hid (own_wi OE1_15.out)
  have KIE10 := Lib.hid (own_wi OE10_15.out)
  have KIE11 := Lib.hid (own_wi OE11_15.out)
  have XE := Lib.hid ap; have IE0 := Lib.hid ia; have IE1 := Lib.hid ib; have IE10 := Lib.hid ic; have IE11 := Lib.hid id; have QE := Lib.hid (And.intro r0 (And.intro r1 r2)); clear oa ob oc od ap ia ib ic id r0 r1 r2
  go_wp2_with (first | (refine wpList_load_row rfl 30 (.tmp 3) rfl _ rfl 30 _ (0, 0) _ F_15.out Tryz.underlying30 rfl (by kernel_rfl) ?_) | (refine wpList_load_row rfl 38 (.tmp 8) rfl _ rfl 38 _ (0, 0) _ K8_15.out Tryz.underlying38 rfl (by kernel_rfl) ?_) | (refine wpList_load_row rfl 38 (.tmp 10) rfl _ rfl 38 _ (0, 0) _ K10_15.out Tryz.underlying38 rfl (by kernel_rfl) ?_) | (refine wpList_load_row rfl 38 (.tmp 11) rfl _ rfl 38 _ (0, 0) _ K11_15.out Tryz.underlying38 rfl (by kernel_rfl) ?_))
  refine (P0.out w15 _ _ _ _ (OE0_15.out.rit IDa.out) (OE1_15.out.riu IMa.out) (OE10_15.out.riu IGa.out) (OE11_15.out.riu IHa.out) SM.out.1.1.1 SM.out.1.2.1).mono ?_
  rintro e w16 ⟨CA0, CA1, CA10, CA11, Cc0, Cc1, Cc10, Cc11, rfl, pg, g⟩
  have G16 := Lib.hid g; have SZ16 : Hid (w15.heap.size ≤ w16.heap.size) := Lib.hid g.size; clear g
  have F_16 : Hid (w16.heap[w.heap.size]? = some (.cells #[.slice A0 ss.length c0, .slice A1 ps.length c1, .int .i64 fz, .bool off, .int .i64 b, .int .i64 l, .int .i64 q, .int .i64 t, .int .i64 sq, .int .i64 at_, .slice A10 lg.length c10, .slice A11 dt.length c11] 30 (0, 0))) := Lib.hid ((G16.out.block _ (by have s0 := SZ0.out; have s1 := SZ1.out; have s2 := SZ2.out; have s3 := SZ3.out; have s4 := SZ4.out; have s5 := SZ5.out; have s6 := SZ6.out; have s7 := SZ7.out; have s8 := SZ8.out; have s9 := SZ9.out; have s10 := SZ10.out; have s11 := SZ11.out; have s12 := SZ12.out; have s13 := SZ13.out; have s14 := SZ14.out; have s15 := SZ15.out; have qy := QY.out; omega)).trans F_15.out)
  have OZ0_16 : Hid (OT w16 w2.heap.size (.slice ZA0 D.length Zc0) D) := Lib.hid (own_bel OZ0_15.out G16.out)
  have OZ1_16 : Hid (OU w16 w2.heap.size (.slice ZA1 M.length Zc1) M) := Lib.hid (own_bel OZ1_15.out G16.out)
  have OZ10_16 : Hid (OG w16 w2.heap.size (.slice ZA10 G.length Zc10) G) := Lib.hid (own_bel OZ10_15.out G16.out)
  have OZ11_16 : Hid (OG w16 w2.heap.size (.slice ZA11 H.length Zc11) H) := Lib.hid (own_bel OZ11_15.out G16.out)
  have K8_16 : Hid (w16.heap[w3.heap.size]? = some (.cells #[.slice ZA0 D.length Zc0, .slice ZA1 M.length Zc1, .int .i64 fz2, .bool off2, .int .i64 b2, .int .i64 l2, .int .i64 q2, .int .i64 t2, .int .i64 sq2, .int .i64 at2, .slice ZA10 G.length Zc10, .slice ZA11 H.length Zc11] 38 (0, 0))) := Lib.hid ((G16.out.block _ (by have s0 := SZ0.out; have s1 := SZ1.out; have s2 := SZ2.out; have s3 := SZ3.out; have s4 := SZ4.out; have s5 := SZ5.out; have s6 := SZ6.out; have s7 := SZ7.out; have s8 := SZ8.out; have s9 := SZ9.out; have s10 := SZ10.out; have s11 := SZ11.out; have s12 := SZ12.out; have s13 := SZ13.out; have s14 := SZ14.out; have s15 := SZ15.out; have qy := QY.out; omega)).trans K8_15.out)
  have K10_16 : Hid (w16.heap[w5.heap.size]? = some (.cells #[.slice VA0 ss.length ss.length, .slice VA1 ps.length ps.length, .int .i64 fz, .bool off, .int .i64 b, .int .i64 l, .int .i64 q, .int .i64 t, .int .i64 sq, .int .i64 at_, .slice VA10 lg.length lg.length, .slice VA11 dt.length dt.length] 38 (0, 0))) := Lib.hid ((G16.out.block _ (by have s0 := SZ0.out; have s1 := SZ1.out; have s2 := SZ2.out; have s3 := SZ3.out; have s4 := SZ4.out; have s5 := SZ5.out; have s6 := SZ6.out; have s7 := SZ7.out; have s8 := SZ8.out; have s9 := SZ9.out; have s10 := SZ10.out; have s11 := SZ11.out; have s12 := SZ12.out; have s13 := SZ13.out; have s14 := SZ14.out; have s15 := SZ15.out; have qy := QY.out; omega)).trans K10_15.out)
  have K11_16 : Hid (w16.heap[w7.heap.size]? = some (.cells #[.slice YA0 D.length Yc0, .slice YA1 M.length Yc1, .int .i64 fz2, .bool off2, .int .i64 b2, .int .i64 l2, .int .i64 q2, .int .i64 t2, .int .i64 sq2, .int .i64 at2, .slice YA10 G.length Yc10, .slice YA11 H.length Yc11] 38 (0, 0))) := Lib.hid ((G16.out.block _ (by have s0 := SZ0.out; have s1 := SZ1.out; have s2 := SZ2.out; have s3 := SZ3.out; have s4 := SZ4.out; have s5 := SZ5.out; have s6 := SZ6.out; have s7 := SZ7.out; have s8 := SZ8.out; have s9 := SZ9.out; have s10 := SZ10.out; have s11 := SZ11.out; have s12 := SZ12.out; have s13 := SZ13.out; have s14 := SZ14.out; have s15 := SZ15.out; have qy := QY.out; omega)).trans K11_15.out)
  have OY0_16 : Hid (OT w16 w6.heap.size (.slice YA0 D.length Yc0) (marksT 1 D.length)) := Lib.hid (own_bel OY0_15.out G16.out)
  have OY1_16 : Hid (OU w16 w6.heap.size (.slice YA1 M.length Yc1) (marksU (1 + D.length) M.length)) := Lib.hid (own_bel OY1_15.out G16.out)
  have OY10_16 : Hid (OG w16 w6.heap.size (.slice YA10 G.length Yc10) (marksU (1 + D.length + 2 * M.length) G.length)) := Lib.hid (own_bel OY10_15.out G16.out)
  have OY11_16 : Hid (OG w16 w6.heap.size (.slice YA11 H.length Yc11) (marksU (1 + D.length + 2 * M.length + 2 * G.length) H.length)) := Lib.hid (own_bel OY11_15.out G16.out)
  have OE0_16 : Hid (OT w16 w14.heap.size (.slice EA0 ss.length ss.length) ss) := Lib.hid (own_bel OE0_15.out G16.out)
  have OE1_16 : Hid (OU w16 w14.heap.size (.slice EA1 ps.length ps.length) ps) := Lib.hid (own_bel OE1_15.out G16.out)
  have OE10_16 : Hid (OG w16 w14.heap.size (.slice EA10 lg.length lg.length) lg) := Lib.hid (own_bel OE10_15.out G16.out)
  have OE11_16 : Hid (OG w16 w14.heap.size (.slice EA11 dt.length dt.length) dt) := Lib.hid (own_bel OE11_15.out G16.out)
  have HB16 : Hid (Below w.heap.size w w16) := Lib.hid (HB15.out.trans (G16.out.mono HB15.out.size))
  simp only [mkC]
  have PGC := Lib.hid pg; clear pg
  have OC0_16 : Hid (OT w16 w15.heap.size (.slice CA0 D.length Cc0) D) := Lib.hid PGC.out.1
  have OC1_16 : Hid (OU w16 w15.heap.size (.slice CA1 M.length Cc1) M) := Lib.hid PGC.out.2.1
  have OC10_16 : Hid (OG w16 w15.heap.size (.slice CA10 G.length Cc10) G) := Lib.hid PGC.out.2.2.1
  have OC11_16 : Hid (OG w16 w15.heap.size (.slice CA11 H.length Cc11) H) := Lib.hid PGC.out.2.2.2.1
  have KIC0 := Lib.hid (own_wi OC0_16.out)
  have KIC1 := Lib.hid (own_wi OC1_16.out)
  have KIC10 := Lib.hid (own_wi OC10_16.out)
  have KIC11 := Lib.hid (own_wi OC11_16.out)
  have G17 : Hid (Below w16.heap.size w16 (w16.alloc (.cells #[.slice CA0 D.length Cc0, .slice CA1 M.length Cc1, .int .i64 fz2, .bool off2, .int .i64 b2, .int .i64 l2, .int .i64 q2, .int .i64 t2, .int .i64 sq2, .int .i64 at2, .slice CA10 G.length Cc10, .slice CA11 H.length Cc11] 38))) := Lib.hid ((Below.refl _ _).alloc (Nat.le_refl _) _)
  have SZ17 : Hid (w16.heap.size + 1 ≤ (w16.alloc (.cells #[.slice CA0 D.length Cc0, .slice CA1 M.length Cc1, .int .i64 fz2, .bool off2, .int .i64 b2, .int .i64 l2, .int .i64 q2, .int .i64 t2, .int .i64 sq2, .int .i64 at2, .slice CA10 G.length Cc10, .slice CA11 H.length Cc11] 38)).heap.size) := Lib.hid (by simp)
  have F_17 : Hid ((w16.alloc (.cells #[.slice CA0 D.length Cc0, .slice CA1 M.length Cc1, .int .i64 fz2, .bool off2, .int .i64 b2, .int .i64 l2, .int .i64 q2, .int .i64 t2, .int .i64 sq2, .int .i64 at2, .slice CA10 G.length Cc10, .slice CA11 H.length Cc11] 38)).heap[w.heap.size]? = some (.cells #[.slice A0 ss.length c0, .slice A1 ps.length c1, .int .i64 fz, .bool off, .int .i64 b, .int .i64 l, .int .i64 q, .int .i64 t, .int .i64 sq, .int .i64 at_, .slice A10 lg.length c10, .slice A11 dt.length c11] 30 (0, 0))) := Lib.hid ((G17.out.block _ (by have s0 := SZ0.out; have s1 := SZ1.out; have s2 := SZ2.out; have s3 := SZ3.out; have s4 := SZ4.out; have s5 := SZ5.out; have s6 := SZ6.out; have s7 := SZ7.out; have s8 := SZ8.out; have s9 := SZ9.out; have s10 := SZ10.out; have s11 := SZ11.out; have s12 := SZ12.out; have s13 := SZ13.out; have s14 := SZ14.out; have s15 := SZ15.out; have s16 := SZ16.out; have qy := QY.out; omega)).trans F_16.out)
  have OZ0_17 : Hid (OT (w16.alloc (.cells #[.slice CA0 D.length Cc0, .slice CA1 M.length Cc1, .int .i64 fz2, .bool off2, .int .i64 b2, .int .i64 l2, .int .i64 q2, .int .i64 t2, .int .i64 sq2, .int .i64 at2, .slice CA10 G.length Cc10, .slice CA11 H.length Cc11] 38)) w2.heap.size (.slice ZA0 D.length Zc0) D) := Lib.hid (own_bel OZ0_16.out G17.out)
  have OZ1_17 : Hid (OU (w16.alloc (.cells #[.slice CA0 D.length Cc0, .slice CA1 M.length Cc1, .int .i64 fz2, .bool off2, .int .i64 b2, .int .i64 l2, .int .i64 q2, .int .i64 t2, .int .i64 sq2, .int .i64 at2, .slice CA10 G.length Cc10, .slice CA11 H.length Cc11] 38)) w2.heap.size (.slice ZA1 M.length Zc1) M) := Lib.hid (own_bel OZ1_16.out G17.out)
  have OZ10_17 : Hid (OG (w16.alloc (.cells #[.slice CA0 D.length Cc0, .slice CA1 M.length Cc1, .int .i64 fz2, .bool off2, .int .i64 b2, .int .i64 l2, .int .i64 q2, .int .i64 t2, .int .i64 sq2, .int .i64 at2, .slice CA10 G.length Cc10, .slice CA11 H.length Cc11] 38)) w2.heap.size (.slice ZA10 G.length Zc10) G) := Lib.hid (own_bel OZ10_16.out G17.out)
  have OZ11_17 : Hid (OG (w16.alloc (.cells #[.slice CA0 D.length Cc0, .slice CA1 M.length Cc1, .int .i64 fz2, .bool off2, .int .i64 b2, .int .i64 l2, .int .i64 q2, .int .i64 t2, .int .i64 sq2, .int .i64 at2, .slice CA10 G.length Cc10, .slice CA11 H.length Cc11] 38)) w2.heap.size (.slice ZA11 H.length Zc11) H) := Lib.hid (own_bel OZ11_16.out G17.out)
  have K8_17 : Hid ((w16.alloc (.cells #[.slice CA0 D.length Cc0, .slice CA1 M.length Cc1, .int .i64 fz2, .bool off2, .int .i64 b2, .int .i64 l2, .int .i64 q2, .int .i64 t2, .int .i64 sq2, .int .i64 at2, .slice CA10 G.length Cc10, .slice CA11 H.length Cc11] 38)).heap[w3.heap.size]? = some (.cells #[.slice ZA0 D.length Zc0, .slice ZA1 M.length Zc1, .int .i64 fz2, .bool off2, .int .i64 b2, .int .i64 l2, .int .i64 q2, .int .i64 t2, .int .i64 sq2, .int .i64 at2, .slice ZA10 G.length Zc10, .slice ZA11 H.length Zc11] 38 (0, 0))) := Lib.hid ((G17.out.block _ (by have s0 := SZ0.out; have s1 := SZ1.out; have s2 := SZ2.out; have s3 := SZ3.out; have s4 := SZ4.out; have s5 := SZ5.out; have s6 := SZ6.out; have s7 := SZ7.out; have s8 := SZ8.out; have s9 := SZ9.out; have s10 := SZ10.out; have s11 := SZ11.out; have s12 := SZ12.out; have s13 := SZ13.out; have s14 := SZ14.out; have s15 := SZ15.out; have s16 := SZ16.out; have qy := QY.out; omega)).trans K8_16.out)
  have K10_17 : Hid ((w16.alloc (.cells #[.slice CA0 D.length Cc0, .slice CA1 M.length Cc1, .int .i64 fz2, .bool off2, .int .i64 b2, .int .i64 l2, .int .i64 q2, .int .i64 t2, .int .i64 sq2, .int .i64 at2, .slice CA10 G.length Cc10, .slice CA11 H.length Cc11] 38)).heap[w5.heap.size]? = some (.cells #[.slice VA0 ss.length ss.length, .slice VA1 ps.length ps.length, .int .i64 fz, .bool off, .int .i64 b, .int .i64 l, .int .i64 q, .int .i64 t, .int .i64 sq, .int .i64 at_, .slice VA10 lg.length lg.length, .slice VA11 dt.length dt.length] 38 (0, 0))) := Lib.hid ((G17.out.block _ (by have s0 := SZ0.out; have s1 := SZ1.out; have s2 := SZ2.out; have s3 := SZ3.out; have s4 := SZ4.out; have s5 := SZ5.out; have s6 := SZ6.out; have s7 := SZ7.out; have s8 := SZ8.out; have s9 := SZ9.out; have s10 := SZ10.out; have s11 := SZ11.out; have s12 := SZ12.out; have s13 := SZ13.out; have s14 := SZ14.out; have s15 := SZ15.out; have s16 := SZ16.out; have qy := QY.out; omega)).trans K10_16.out)
  have K11_17 : Hid ((w16.alloc (.cells #[.slice CA0 D.length Cc0, .slice CA1 M.length Cc1, .int .i64 fz2, .bool off2, .int .i64 b2, .int .i64 l2, .int .i64 q2, .int .i64 t2, .int .i64 sq2, .int .i64 at2, .slice CA10 G.length Cc10, .slice CA11 H.length Cc11] 38)).heap[w7.heap.size]? = some (.cells #[.slice YA0 D.length Yc0, .slice YA1 M.length Yc1, .int .i64 fz2, .bool off2, .int .i64 b2, .int .i64 l2, .int .i64 q2, .int .i64 t2, .int .i64 sq2, .int .i64 at2, .slice YA10 G.length Yc10, .slice YA11 H.length Yc11] 38 (0, 0))) := Lib.hid ((G17.out.block _ (by have s0 := SZ0.out; have s1 := SZ1.out; have s2 := SZ2.out; have s3 := SZ3.out; have s4 := SZ4.out; have s5 := SZ5.out; have s6 := SZ6.out; have s7 := SZ7.out; have s8 := SZ8.out; have s9 := SZ9.out; have s10 := SZ10.out; have s11 := SZ11.out; have s12 := SZ12.out; have s13 := SZ13.out; have s14 := SZ14.out; have s15 := SZ15.out; have s16 := SZ16.out; have qy := QY.out; omega)).trans K11_16.out)
  have OY0_17 : Hid (OT (w16.alloc (.cells #[.slice CA0 D.length Cc0, .slice CA1 M.length Cc1, .int .i64 fz2, .bool off2, .int .i64 b2, .int .i64 l2, .int .i64 q2, .int .i64 t2, .int .i64 sq2, .int .i64 at2, .slice CA10 G.length Cc10, .slice CA11 H.length Cc11] 38)) w6.heap.size (.slice YA0 D.length Yc0) (marksT 1 D.length)) := Lib.hid (own_bel OY0_16.out G17.out)
  have OY1_17 : Hid (OU (w16.alloc (.cells #[.slice CA0 D.length Cc0, .slice CA1 M.length Cc1, .int .i64 fz2, .bool off2, .int .i64 b2, .int .i64 l2, .int .i64 q2, .int .i64 t2, .int .i64 sq2, .int .i64 at2, .slice CA10 G.length Cc10, .slice CA11 H.length Cc11] 38)) w6.heap.size (.slice YA1 M.length Yc1) (marksU (1 + D.length) M.length)) := Lib.hid (own_bel OY1_16.out G17.out)
  have OY10_17 : Hid (OG (w16.alloc (.cells #[.slice CA0 D.length Cc0, .slice CA1 M.length Cc1, .int .i64 fz2, .bool off2, .int .i64 b2, .int .i64 l2, .int .i64 q2, .int .i64 t2, .int .i64 sq2, .int .i64 at2, .slice CA10 G.length Cc10, .slice CA11 H.length Cc11] 38)) w6.heap.size (.slice YA10 G.length Yc10) (marksU (1 + D.length + 2 * M.length) G.length)) := Lib.hid (own_bel OY10_16.out G17.out)
  have OY11_17 : Hid (OG (w16.alloc (.cells #[.slice CA0 D.length Cc0, .slice CA1 M.length Cc1, .int .i64 fz2, .bool off2, .int .i64 b2, .int .i64 l2, .int .i64 q2, .int .i64 t2, .int .i64 sq2, .int .i64 at2, .slice CA10 G.length Cc10, .slice CA11 H.length Cc11] 38)) w6.heap.size (.slice YA11 H.length Yc11) (marksU (1 + D.length + 2 * M.length + 2 * G.length) H.length)) := Lib.hid (own_bel OY11_16.out G17.out)
  have OC0_17 : Hid (OT (w16.alloc (.cells #[.slice CA0 D.length Cc0, .slice CA1 M.length Cc1, .int .i64 fz2, .bool off2, .int .i64 b2, .int .i64 l2, .int .i64 q2, .int .i64 t2, .int .i64 sq2, .int .i64 at2, .slice CA10 G.length Cc10, .slice CA11 H.length Cc11] 38)) w15.heap.size (.slice CA0 D.length Cc0) D) := Lib.hid (own_bel OC0_16.out G17.out)
  have OC1_17 : Hid (OU (w16.alloc (.cells #[.slice CA0 D.length Cc0, .slice CA1 M.length Cc1, .int .i64 fz2, .bool off2, .int .i64 b2, .int .i64 l2, .int .i64 q2, .int .i64 t2, .int .i64 sq2, .int .i64 at2, .slice CA10 G.length Cc10, .slice CA11 H.length Cc11] 38)) w15.heap.size (.slice CA1 M.length Cc1) M) := Lib.hid (own_bel OC1_16.out G17.out)
  have OC10_17 : Hid (OG (w16.alloc (.cells #[.slice CA0 D.length Cc0, .slice CA1 M.length Cc1, .int .i64 fz2, .bool off2, .int .i64 b2, .int .i64 l2, .int .i64 q2, .int .i64 t2, .int .i64 sq2, .int .i64 at2, .slice CA10 G.length Cc10, .slice CA11 H.length Cc11] 38)) w15.heap.size (.slice CA10 G.length Cc10) G) := Lib.hid (own_bel OC10_16.out G17.out)
  have OC11_17 : Hid (OG (w16.alloc (.cells #[.slice CA0 D.length Cc0, .slice CA1 M.length Cc1, .int .i64 fz2, .bool off2, .int .i64 b2, .int .i64 l2, .int .i64 q2, .int .i64 t2, .int .i64 sq2, .int .i64 at2, .slice CA10 G.length Cc10, .slice CA11 H.length Cc11] 38)) w15.heap.size (.slice CA11 H.length Cc11) H) := Lib.hid (own_bel OC11_16.out G17.out)
  have HB17 : Hid (Below w.heap.size w (w16.alloc (.cells #[.slice CA0 D.length Cc0, .slice CA1 M.length Cc1, .int .i64 fz2, .bool off2, .int .i64 b2, .int .i64 l2, .int .i64 q2, .int .i64 t2, .int .i64 sq2, .int .i64 at2, .slice CA10 G.length Cc10, .slice CA11 H.length Cc11] 38))) := Lib.hid (HB16.out.trans (G17.out.mono HB16.out.size))
  have K16_17 : Hid ((w16.alloc (.cells #[.slice CA0 D.length Cc0, .slice CA1 M.length Cc1, .int .i64 fz2, .bool off2, .int .i64 b2, .int .i64 l2, .int .i64 q2, .int .i64 t2, .int .i64 sq2, .int .i64 at2, .slice CA10 G.length Cc10, .slice CA11 H.length Cc11] 38)).heap[w16.heap.size]? = some (.cells #[.slice CA0 D.length Cc0, .slice CA1 M.length Cc1, .int .i64 fz2, .bool off2, .int .i64 b2, .int .i64 l2, .int .i64 q2, .int .i64 t2, .int .i64 sq2, .int .i64 at2, .slice CA10 G.length Cc10, .slice CA11 H.length Cc11] 38 (0, 0))) := Lib.hid (heap_alloc_new w16 _)
  go_wp2_with (first | (refine wpList_load_row rfl 30 (.tmp 3) rfl _ rfl 30 _ (0, 0) _ F_17.out Tryz.underlying30 rfl (by kernel_rfl) ?_) | (refine wpList_load_row rfl 38 (.tmp 8) rfl _ rfl 38 _ (0, 0) _ K8_17.out Tryz.underlying38 rfl (by kernel_rfl) ?_) | (refine wpList_load_row rfl 38 (.tmp 10) rfl _ rfl 38 _ (0, 0) _ K10_17.out Tryz.underlying38 rfl (by kernel_rfl) ?_) | (refine wpList_load_row rfl 38 (.tmp 11) rfl _ rfl 38 _ (0, 0) _ K11_17.out Tryz.underlying38 rfl (by kernel_rfl) ?_) | (refine wpList_load_row rfl 38 (.tmp 16) rfl _ rfl 38 _ (0, 0) _ K16_17.out Tryz.underlying38 rfl (by kernel_rfl) ?_))
  generalize (w16.alloc (.cells #[.slice CA0 D.length Cc0, .slice CA1 M.length Cc1, .int .i64 fz2, .bool off2, .int .i64 b2, .int .i64 l2, .int .i64 q2, .int .i64 t2, .int .i64 sq2, .int .i64 at2, .slice CA10 G.length Cc10, .slice CA11 H.length Cc11] 38)) = w17 at *
  refine (eqPager_any (OC0_17.out.rit ID.out) (OC1_17.out.riu IM.out) (OC10_17.out.riu IG.out) (OC11_17.out.riu IH.out) (OZ0_17.out.rit ID.out) (OZ1_17.out.riu IM.out) (OZ10_17.out.riu IG.out) (OZ11_17.out.riu IH.out) (Nat.le_refl _)).mono ?_
  rintro e w18 ⟨rfl, g⟩
  have G18 := Lib.hid g; have SZ18 : Hid (w17.heap.size ≤ w18.heap.size) := Lib.hid g.size; clear g
  have F_18 : Hid (w18.heap[w.heap.size]? = some (.cells #[.slice A0 ss.length c0, .slice A1 ps.length c1, .int .i64 fz, .bool off, .int .i64 b, .int .i64 l, .int .i64 q, .int .i64 t, .int .i64 sq, .int .i64 at_, .slice A10 lg.length c10, .slice A11 dt.length c11] 30 (0, 0))) := Lib.hid ((G18.out.block _ (by have s0 := SZ0.out; have s1 := SZ1.out; have s2 := SZ2.out; have s3 := SZ3.out; have s4 := SZ4.out; have s5 := SZ5.out; have s6 := SZ6.out; have s7 := SZ7.out; have s8 := SZ8.out; have s9 := SZ9.out; have s10 := SZ10.out; have s11 := SZ11.out; have s12 := SZ12.out; have s13 := SZ13.out; have s14 := SZ14.out; have s15 := SZ15.out; have s16 := SZ16.out; have s17 := SZ17.out; have qy := QY.out; omega)).trans F_17.out)
  have OZ0_18 : Hid (OT w18 w2.heap.size (.slice ZA0 D.length Zc0) D) := Lib.hid (own_bel OZ0_17.out G18.out)
  have OZ1_18 : Hid (OU w18 w2.heap.size (.slice ZA1 M.length Zc1) M) := Lib.hid (own_bel OZ1_17.out G18.out)
  have OZ10_18 : Hid (OG w18 w2.heap.size (.slice ZA10 G.length Zc10) G) := Lib.hid (own_bel OZ10_17.out G18.out)
  have OZ11_18 : Hid (OG w18 w2.heap.size (.slice ZA11 H.length Zc11) H) := Lib.hid (own_bel OZ11_17.out G18.out)
  have K8_18 : Hid (w18.heap[w3.heap.size]? = some (.cells #[.slice ZA0 D.length Zc0, .slice ZA1 M.length Zc1, .int .i64 fz2, .bool off2, .int .i64 b2, .int .i64 l2, .int .i64 q2, .int .i64 t2, .int .i64 sq2, .int .i64 at2, .slice ZA10 G.length Zc10, .slice ZA11 H.length Zc11] 38 (0, 0))) := Lib.hid ((G18.out.block _ (by have s0 := SZ0.out; have s1 := SZ1.out; have s2 := SZ2.out; have s3 := SZ3.out; have s4 := SZ4.out; have s5 := SZ5.out; have s6 := SZ6.out; have s7 := SZ7.out; have s8 := SZ8.out; have s9 := SZ9.out; have s10 := SZ10.out; have s11 := SZ11.out; have s12 := SZ12.out; have s13 := SZ13.out; have s14 := SZ14.out; have s15 := SZ15.out; have s16 := SZ16.out; have s17 := SZ17.out; have qy := QY.out; omega)).trans K8_17.out)
  have K10_18 : Hid (w18.heap[w5.heap.size]? = some (.cells #[.slice VA0 ss.length ss.length, .slice VA1 ps.length ps.length, .int .i64 fz, .bool off, .int .i64 b, .int .i64 l, .int .i64 q, .int .i64 t, .int .i64 sq, .int .i64 at_, .slice VA10 lg.length lg.length, .slice VA11 dt.length dt.length] 38 (0, 0))) := Lib.hid ((G18.out.block _ (by have s0 := SZ0.out; have s1 := SZ1.out; have s2 := SZ2.out; have s3 := SZ3.out; have s4 := SZ4.out; have s5 := SZ5.out; have s6 := SZ6.out; have s7 := SZ7.out; have s8 := SZ8.out; have s9 := SZ9.out; have s10 := SZ10.out; have s11 := SZ11.out; have s12 := SZ12.out; have s13 := SZ13.out; have s14 := SZ14.out; have s15 := SZ15.out; have s16 := SZ16.out; have s17 := SZ17.out; have qy := QY.out; omega)).trans K10_17.out)
  have K11_18 : Hid (w18.heap[w7.heap.size]? = some (.cells #[.slice YA0 D.length Yc0, .slice YA1 M.length Yc1, .int .i64 fz2, .bool off2, .int .i64 b2, .int .i64 l2, .int .i64 q2, .int .i64 t2, .int .i64 sq2, .int .i64 at2, .slice YA10 G.length Yc10, .slice YA11 H.length Yc11] 38 (0, 0))) := Lib.hid ((G18.out.block _ (by have s0 := SZ0.out; have s1 := SZ1.out; have s2 := SZ2.out; have s3 := SZ3.out; have s4 := SZ4.out; have s5 := SZ5.out; have s6 := SZ6.out; have s7 := SZ7.out; have s8 := SZ8.out; have s9 := SZ9.out; have s10 := SZ10.out; have s11 := SZ11.out; have s12 := SZ12.out; have s13 := SZ13.out; have s14 := SZ14.out; have s15 := SZ15.out; have s16 := SZ16.out; have s17 := SZ17.out; have qy := QY.out; omega)).trans K11_17.out)
  have OY0_18 : Hid (OT w18 w6.heap.size (.slice YA0 D.length Yc0) (marksT 1 D.length)) := Lib.hid (own_bel OY0_17.out G18.out)
  have OY1_18 : Hid (OU w18 w6.heap.size (.slice YA1 M.length Yc1) (marksU (1 + D.length) M.length)) := Lib.hid (own_bel OY1_17.out G18.out)
  have OY10_18 : Hid (OG w18 w6.heap.size (.slice YA10 G.length Yc10) (marksU (1 + D.length + 2 * M.length) G.length)) := Lib.hid (own_bel OY10_17.out G18.out)
  have OY11_18 : Hid (OG w18 w6.heap.size (.slice YA11 H.length Yc11) (marksU (1 + D.length + 2 * M.length + 2 * G.length) H.length)) := Lib.hid (own_bel OY11_17.out G18.out)
  have OC0_18 : Hid (OT w18 w15.heap.size (.slice CA0 D.length Cc0) D) := Lib.hid (own_bel OC0_17.out G18.out)
  have OC1_18 : Hid (OU w18 w15.heap.size (.slice CA1 M.length Cc1) M) := Lib.hid (own_bel OC1_17.out G18.out)
  have OC10_18 : Hid (OG w18 w15.heap.size (.slice CA10 G.length Cc10) G) := Lib.hid (own_bel OC10_17.out G18.out)
  have OC11_18 : Hid (OG w18 w15.heap.size (.slice CA11 H.length Cc11) H) := Lib.hid (own_bel OC11_17.out G18.out)
  have K16_18 : Hid (w18.heap[w16.heap.size]? = some (.cells #[.slice CA0 D.length Cc0, .slice CA1 M.length Cc1, .int .i64 fz2, .bool off2, .int .i64 b2, .int .i64 l2, .int .i64 q2, .int .i64 t2, .int .i64 sq2, .int .i64 at2, .slice CA10 G.length Cc10, .slice CA11 H.length Cc11] 38 (0, 0))) := Lib.hid ((G18.out.block _ (by have s0 := SZ0.out; have s1 := SZ1.out; have s2 := SZ2.out; have s3 := SZ3.out; have s4 := SZ4.out; have s5 := SZ5.out; have s6 := SZ6.out; have s7 := SZ7.out; have s8 := SZ8.out; have s9 := SZ9.out; have s10 := SZ10.out; have s11 := SZ11.out; have s12 := SZ12.out; have s13 := SZ13.out; have s14 := SZ14.out; have s15 := SZ15.out; have s16 := SZ16.out; have s17 := SZ17.out; have qy := QY.out; omega)).trans K16_17.out)
  have HB18 : Hid (Below w.heap.size w w18) := Lib.hid (HB17.out.trans (G18.out.mono HB17.out.size))
  go_wp2_with (first | (refine wpList_load_row rfl 30 (.tmp 3) rfl _ rfl 30 _ (0, 0) _ F_18.out Tryz.underlying30 rfl (by kernel_rfl) ?_) | (refine wpList_load_row rfl 38 (.tmp 8) rfl _ rfl 38 _ (0, 0) _ K8_18.out Tryz.underlying38 rfl (by kernel_rfl) ?_) | (refine wpList_load_row rfl 38 (.tmp 10) rfl _ rfl 38 _ (0, 0) _ K10_18.out Tryz.underlying38 rfl (by kernel_rfl) ?_) | (refine wpList_load_row rfl 38 (.tmp 11) rfl _ rfl 38 _ (0, 0) _ K11_18.out Tryz.underlying38 rfl (by kernel_rfl) ?_) | (refine wpList_load_row rfl 38 (.tmp 16) rfl _ rfl 38 _ (0, 0) _ K16_18.out Tryz.underlying38 rfl (by kernel_rfl) ?_))
  refine (heldPager_any 1 OY0_18.out OY1_18.out OY10_18.out OY11_18.out (by omega) (by have h1 := LN.out; omega)).mono ?_
  rintro e w19 ⟨rfl, g⟩
  have G19 := Lib.hid g; have SZ19 : Hid (w18.heap.size ≤ w19.heap.size) := Lib.hid g.size; clear g
  have F_19 : Hid (w19.heap[w.heap.size]? = some (.cells #[.slice A0 ss.length c0, .slice A1 ps.length c1, .int .i64 fz, .bool off, .int .i64 b, .int .i64 l, .int .i64 q, .int .i64 t, .int .i64 sq, .int .i64 at_, .slice A10 lg.length c10, .slice A11 dt.length c11] 30 (0, 0))) := Lib.hid ((G19.out.block _ (by have s0 := SZ0.out; have s1 := SZ1.out; have s2 := SZ2.out; have s3 := SZ3.out; have s4 := SZ4.out; have s5 := SZ5.out; have s6 := SZ6.out; have s7 := SZ7.out; have s8 := SZ8.out; have s9 := SZ9.out; have s10 := SZ10.out; have s11 := SZ11.out; have s12 := SZ12.out; have s13 := SZ13.out; have s14 := SZ14.out; have s15 := SZ15.out; have s16 := SZ16.out; have s17 := SZ17.out; have s18 := SZ18.out; have qy := QY.out; omega)).trans F_18.out)
  have OZ0_19 : Hid (OT w19 w2.heap.size (.slice ZA0 D.length Zc0) D) := Lib.hid (own_bel OZ0_18.out G19.out)
  have OZ1_19 : Hid (OU w19 w2.heap.size (.slice ZA1 M.length Zc1) M) := Lib.hid (own_bel OZ1_18.out G19.out)
  have OZ10_19 : Hid (OG w19 w2.heap.size (.slice ZA10 G.length Zc10) G) := Lib.hid (own_bel OZ10_18.out G19.out)
  have OZ11_19 : Hid (OG w19 w2.heap.size (.slice ZA11 H.length Zc11) H) := Lib.hid (own_bel OZ11_18.out G19.out)
  have K8_19 : Hid (w19.heap[w3.heap.size]? = some (.cells #[.slice ZA0 D.length Zc0, .slice ZA1 M.length Zc1, .int .i64 fz2, .bool off2, .int .i64 b2, .int .i64 l2, .int .i64 q2, .int .i64 t2, .int .i64 sq2, .int .i64 at2, .slice ZA10 G.length Zc10, .slice ZA11 H.length Zc11] 38 (0, 0))) := Lib.hid ((G19.out.block _ (by have s0 := SZ0.out; have s1 := SZ1.out; have s2 := SZ2.out; have s3 := SZ3.out; have s4 := SZ4.out; have s5 := SZ5.out; have s6 := SZ6.out; have s7 := SZ7.out; have s8 := SZ8.out; have s9 := SZ9.out; have s10 := SZ10.out; have s11 := SZ11.out; have s12 := SZ12.out; have s13 := SZ13.out; have s14 := SZ14.out; have s15 := SZ15.out; have s16 := SZ16.out; have s17 := SZ17.out; have s18 := SZ18.out; have qy := QY.out; omega)).trans K8_18.out)
  have K10_19 : Hid (w19.heap[w5.heap.size]? = some (.cells #[.slice VA0 ss.length ss.length, .slice VA1 ps.length ps.length, .int .i64 fz, .bool off, .int .i64 b, .int .i64 l, .int .i64 q, .int .i64 t, .int .i64 sq, .int .i64 at_, .slice VA10 lg.length lg.length, .slice VA11 dt.length dt.length] 38 (0, 0))) := Lib.hid ((G19.out.block _ (by have s0 := SZ0.out; have s1 := SZ1.out; have s2 := SZ2.out; have s3 := SZ3.out; have s4 := SZ4.out; have s5 := SZ5.out; have s6 := SZ6.out; have s7 := SZ7.out; have s8 := SZ8.out; have s9 := SZ9.out; have s10 := SZ10.out; have s11 := SZ11.out; have s12 := SZ12.out; have s13 := SZ13.out; have s14 := SZ14.out; have s15 := SZ15.out; have s16 := SZ16.out; have s17 := SZ17.out; have s18 := SZ18.out; have qy := QY.out; omega)).trans K10_18.out)
  have K11_19 : Hid (w19.heap[w7.heap.size]? = some (.cells #[.slice YA0 D.length Yc0, .slice YA1 M.length Yc1, .int .i64 fz2, .bool off2, .int .i64 b2, .int .i64 l2, .int .i64 q2, .int .i64 t2, .int .i64 sq2, .int .i64 at2, .slice YA10 G.length Yc10, .slice YA11 H.length Yc11] 38 (0, 0))) := Lib.hid ((G19.out.block _ (by have s0 := SZ0.out; have s1 := SZ1.out; have s2 := SZ2.out; have s3 := SZ3.out; have s4 := SZ4.out; have s5 := SZ5.out; have s6 := SZ6.out; have s7 := SZ7.out; have s8 := SZ8.out; have s9 := SZ9.out; have s10 := SZ10.out; have s11 := SZ11.out; have s12 := SZ12.out; have s13 := SZ13.out; have s14 := SZ14.out; have s15 := SZ15.out; have s16 := SZ16.out; have s17 := SZ17.out; have s18 := SZ18.out; have qy := QY.out; omega)).trans K11_18.out)
  have OY0_19 : Hid (OT w19 w6.heap.size (.slice YA0 D.length Yc0) (marksT 1 D.length)) := Lib.hid (own_bel OY0_18.out G19.out)
  have OY1_19 : Hid (OU w19 w6.heap.size (.slice YA1 M.length Yc1) (marksU (1 + D.length) M.length)) := Lib.hid (own_bel OY1_18.out G19.out)
  have OY10_19 : Hid (OG w19 w6.heap.size (.slice YA10 G.length Yc10) (marksU (1 + D.length + 2 * M.length) G.length)) := Lib.hid (own_bel OY10_18.out G19.out)
  have OY11_19 : Hid (OG w19 w6.heap.size (.slice YA11 H.length Yc11) (marksU (1 + D.length + 2 * M.length + 2 * G.length) H.length)) := Lib.hid (own_bel OY11_18.out G19.out)
  have OC0_19 : Hid (OT w19 w15.heap.size (.slice CA0 D.length Cc0) D) := Lib.hid (own_bel OC0_18.out G19.out)
  have OC1_19 : Hid (OU w19 w15.heap.size (.slice CA1 M.length Cc1) M) := Lib.hid (own_bel OC1_18.out G19.out)
  have OC10_19 : Hid (OG w19 w15.heap.size (.slice CA10 G.length Cc10) G) := Lib.hid (own_bel OC10_18.out G19.out)
  have OC11_19 : Hid (OG w19 w15.heap.size (.slice CA11 H.length Cc11) H) := Lib.hid (own_bel OC11_18.out G19.out)
  have K16_19 : Hid (w19.heap[w16.heap.size]? = some (.cells #[.slice CA0 D.length Cc0, .slice CA1 M.length Cc1, .int .i64 fz2, .bool off2, .int .i64 b2, .int .i64 l2, .int .i64 q2, .int .i64 t2, .int .i64 sq2, .int .i64 at2, .slice CA10 G.length Cc10, .slice CA11 H.length Cc11] 38 (0, 0))) := Lib.hid ((G19.out.block _ (by have s0 := SZ0.out; have s1 := SZ1.out; have s2 := SZ2.out; have s3 := SZ3.out; have s4 := SZ4.out; have s5 := SZ5.out; have s6 := SZ6.out; have s7 := SZ7.out; have s8 := SZ8.out; have s9 := SZ9.out; have s10 := SZ10.out; have s11 := SZ11.out; have s12 := SZ12.out; have s13 := SZ13.out; have s14 := SZ14.out; have s15 := SZ15.out; have s16 := SZ16.out; have s17 := SZ17.out; have s18 := SZ18.out; have qy := QY.out; omega)).trans K16_18.out)
  have HB19 : Hid (Below w.heap.size w w19) := Lib.hid (HB18.out.trans (G19.out.mono HB18.out.size))
  go_wp2_with (first | (refine wpList_load_row rfl 30 (.tmp 3) rfl _ rfl 30 _ (0, 0) _ F_19.out Tryz.underlying30 rfl (by kernel_rfl) ?_) | (refine wpList_load_row rfl 38 (.tmp 8) rfl _ rfl 38 _ (0, 0) _ K8_19.out Tryz.underlying38 rfl (by kernel_rfl) ?_) | (refine wpList_load_row rfl 38 (.tmp 10) rfl _ rfl 38 _ (0, 0) _ K10_19.out Tryz.underlying38 rfl (by kernel_rfl) ?_) | (refine wpList_load_row rfl 38 (.tmp 11) rfl _ rfl 38 _ (0, 0) _ K11_19.out Tryz.underlying38 rfl (by kernel_rfl) ?_) | (refine wpList_load_row rfl 38 (.tmp 16) rfl _ rfl 38 _ (0, 0) _ K16_19.out Tryz.underlying38 rfl (by kernel_rfl) ?_))
  go_ret
  exact ⟨rfl, HB19.out⟩
theorem own : ownKnob Tryz.prog.godebug = none := by kernel_rfl
theorem laidOut : laidOutB Tryz.prog = true := by kernel_rfl
set_option maxRecDepth 100000 in
theorem lifted (os : Os) (started : os.Started) (H : Type) (enc : TypeId × Value → H) :
    ReturnsInHanded {} Tryz.checked os 6 .any (Rows.fnExactReleaseSpec.pre6 enc Tryz.prog Tryz.f6 Rows.fnExactReleaseRow.domain false) (Rows.fnExactReleaseSpec.post enc Tryz.prog Tryz.f6 false true false false) := by
  refine returnsInHanded_of_change (C := Tryz.checked) own started (by kernel_rfl) Tryz.func6
    (ChangeSpec.witness6 (enc := enc) (C := Tryz.checked) false ⟨#[], #[.agg #[.slice none 0 0, .slice none 0 0, .int .i64 0, .bool false, .int .i64 0, .int .i64 0, .int .i64 0, .int .i64 0, .int .i64 0, .int .i64 0, .slice none 0 0, .slice none 0 0], .int .i64 0, .int .i64 0], []⟩ 8 (by kernel_rfl) (by kernel_rfl) (by kernel_rfl) (by kernel_rfl)) ?_
  intro W base args ds gs before hval0 hW hcnd _
  have hval : ∀ (j : Nat) t v, Tryz.f6.params[j]? = some t → args[j]? = some v → Value.okWide Tryz.prog W .any base t v := hval0
  have hW' := hW
  obtain ⟨p, q, hA0, hV, rfl, hfz, hnd⟩ := hW
  have hA : DataW.TrodAll enc Tryz.prog W 0 (fun _ => true) true Tryz.f6.params.toList args.toList ds p := hA0
  rw [Tryz.params6] at hA hval
  obtain ⟨v0, vs0, d0, ds0, p0, q0, hargs, rfl, rfl, h0, r0⟩ := trodAll_cons hA
  obtain ⟨v1, vs1, d1, ds1, p1, q1, rfl, rfl, rfl, h1, r1⟩ := trodAll_cons r0
  obtain ⟨v2, vs2, d2, ds2, p2, q2, rfl, rfl, rfl, h2, r2⟩ := trodAll_cons r1
  obtain ⟨rfl, rfl, rfl⟩ := trodAll_nil r2
  obtain rfl : args = #[v0, v1, v2] := by cases args; simp_all
  obtain ⟨rfl, rfl⟩ := trodVars_none hV
  have k0 := h0
  have lt0 : ∀ x ∈ p0, x.block < W.heap.size := by obtain ⟨m, hm⟩ := k0; exact DataW.trod_lt m _ _ _ hm
  obtain ⟨v0_0, xs0_0, v0_1, xs0_1, n0_2, n0_3, n0_4, n0_5, n0_6, n0_7, n0_8, n0_9, v0_10, xs0_10, v0_11, xs0_11, rfl, g0_0, g0_1, g0_2, g0_4, g0_5, g0_6, g0_7, g0_8, g0_9, g0_10, g0_11⟩ := open_pager (hval 0 30 v0 rfl rfl) h0
  obtain ⟨a1, rfl, rfl, rfl, g1⟩ := open_int Tryz.underlying2 (hval 1 2 v1 rfl rfl) h1
  obtain ⟨a2, rfl, rfl, rfl, g2⟩ := open_int Tryz.underlying2 (hval 2 2 v2 rfl rfl) h2
  clear hA0 hval0
  refine (walk W _ _ _ _ xs0_0 xs0_1 xs0_10 xs0_11 n0_2 n0_3 n0_4 n0_5 n0_6 n0_7 n0_8 n0_9 a1 a2 g0_0 g0_1 g0_10 g0_11 g0_4 g0_5 g1 g2).mono fun e W' ⟨he, bel⟩ => ?_
  subst he
  exact ⟨_, rfl, _, _, _, [], _, [], hW', (trodAll_cons_mk (shut_bool Tryz.underlying4 _) trodAll_mk0), (trodAll_cons_mk (Below.trod laidOut (by kernel_rfl) (of_decide_eq_true (by kernel_rfl)) k0 bel lt0) (trodAll_cons_mk (shut_int Tryz.underlying2 g1) (trodAll_cons_mk (shut_int Tryz.underlying2 g2) trodAll_mk0))), rfl, bel.frame _, fun h => by cases h⟩
theorem closed : joinedFacts Tryz.pinned.checked.prog 6 Tryz.f6 Rows.fnExactReleaseSpec Rows.fnExactReleaseRow = true := by
  unfold joinedFacts
  rw [mayE, lifF, mkP]
  kernel_rfl
theorem over : Rows.fnExactReleaseRow.holds Tryz.pinned (OpenSpec.ofChange Rows.fnExactReleaseSpec) :=
  OpenClaim.holds_of_wide 6 Tryz.f6 rfl rfl rfl rfl rfl rfl rfl ⟨rfl, rfl, rfl, rfl, rfl⟩ rfl rfl rfl rfl rfl (by kernel_rfl) Tryz.func6 closed
    (of_decide_eq_true (by kernel_rfl)) (by unfold Func.isWrapper; rw [if_neg (of_decide_eq_false (by kernel_rfl))]; exact ⟨rfl, rfl⟩)
    (fun os started H enc _ => lifted os started H enc)
theorem proved : Rows.FnExactReleaseSaid := over
end Go.Proofs.YtplfnlalmcpcaaaGreat.fnExactRelease
