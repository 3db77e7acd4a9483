/- Several texts in one: Abt, SpM, SpR, FrP, FrS, FrI, FrJ. No statement is proved here. -/
import Derived.Test.YtlickjmdlooapaaSpO
import Derived.Test.YtlickjmdlooapaaDimC
import Derived.Test.YtlickjmdlooapaaFre
import Derived.Lib.SlBytesRow
import Derived.Test.YtlickjmdlooapaaRun
import Derived.Test.YtlickjmdlooapaaMrU
import Derived.Deep.DeepFit
import Derived.Deep.AppendLies
import Derived.OwnWalk
import Derived.Laws.ResultCell
import Derived.Test.YtlickjmdlooapaaCts
namespace Go.Proofs.Ytlickjmdlooapaa
open Go.RowKit
set_option linter.unusedVariables false
def aB (s : ByteArray) (n : Nat) : Bool := bits .and .u8 (((s.data.toList.getD (4 + n / 8) 0).toNat : Int) / 2 ^ (n % 8)) 1 == 1
theorem getD_byte (s : ByteArray) (i : Nat) (h : i < s.size) : s.data.toList.getD i 0 = s[i] := by
  rw [List.getD_eq_getElem?_getD, List.getElem?_eq_getElem (by simpa using h)]
  simp; rfl
/-- All these blocks are data blocks. -/
def dtB (b l at_ n : Int) : Bool := inB n 1 256 && (inB at_ (3 + l) (b - 1) && decide (at_ + n ≤ b))
theorem dtB_iff {b l at_ n : Int} (hb : b ≤ 256) (hl : 8 ≤ l) : dtB b l at_ n = true ↔ 1 ≤ n ∧ 3 + l ≤ at_ ∧ at_ ≤ b - n := by
  simp only [dtB, Bool.and_eq_true, inB_iff, decide_eq_true_eq]
  omega
theorem dtB_eq {b l at_ n : Int} (hb : b ≤ 256) (hl : 8 ≤ l) : dtB b l at_ n = (decide (1 ≤ n) && (decide (3 + l ≤ at_) && decide (at_ ≤ b - n))) := by
  rw [Bool.eq_iff_iff, dtB_iff hb hl]
  simp only [Bool.and_eq_true, decide_eq_true_eq]
set_option maxHeartbeats 1000000 in
set_option maxRecDepth 100000 in
theorem l13Bit_any (s : ByteArray) (n : Nat) (hs : s.size = 64) (hn : n < 256) (w : World) :
    Calls Try.prog 92 #[.string s, .int .i64 (n : Int)] w (Quiet (.bool (aB s n)) w) := by
  have h1 : 4 + n / 8 < s.size := by omega
  have HV : Hid (aB s n = (bits .and .u8 ((s[4 + n / 8].toNat : Int) / 2 ^ (n % 8)) 1 == 1)) := Lib.hid (by unfold aB; rw [getD_byte s _ h1])
  generalize aB s n = r at *
  go_enter Try.func92, Try.ntmps92
  go_wp2
  go_ret
  exact ⟨by rw [HV.out]; rfl, rfl⟩
set_option maxHeartbeats 1000000 in
set_option maxRecDepth 100000 in
theorem has_any {w : World} {g n : Nat} {s : ByteArray} (hs : s.size = 64) (hn : n < 256) (hg : ByA w g s) :
    Calls Try.prog 171 #[.slice (some ⟨g, 4, none⟩) 32 32, .int .i64 (n : Int)] w (Quiet (.bool (aB s n)) w) := by
  have h1 : n / 8 < 32 := by omega
  have q := hg (4 + n / 8) (by omega)
  have HV : Hid (aB s n = (bits .and .u8 (((s.data.toList.getD (4 + n / 8) 0).toNat : Int) / 2 ^ (n % 8)) 1 == 1)) := Lib.hid rfl
  generalize aB s n = r at *
  have hz : (s.data.toList.getD (4 + n / 8) 0).toNat < 256 := UInt8.toNat_lt _
  generalize (s.data.toList.getD (4 + n / 8) 0).toNat = x at *
  clear hg
  go_enter Try.func171, Try.ntmps171
  go_wp2
  go_ret
  exact ⟨by rw [HV.out]; rfl, rfl⟩
set_option maxHeartbeats 1000000 in
set_option maxRecDepth 100000 in
theorem hasRun_any {b l q t : Int} (at_ n : Int) (w : World) (hs : supOk b l q t = true) (hn : InI n) :
    Calls Try.prog 102 #[.agg #[.int .i64 b, .int .i64 l, .int .i64 q, .int .i64 t], .int .i64 at_, .int .i64 n] w (GivesB (.bool (dtB b l at_ n)) w) := by
  have hb := sup_b hs
  have Hb0 : Hid (Below w.heap.size w (w.alloc (.cells #[.int .i64 b, .int .i64 l, .int .i64 q, .int .i64 t] 39))) := Lib.hid ((Below.refl _ w).alloc (Nat.le_refl _) _)
  have R0 : Hid ((w.alloc (.cells #[.int .i64 b, .int .i64 l, .int .i64 q, .int .i64 t] 39)).heap[w.heap.size]? = some (.cells #[.int .i64 b, .int .i64 l, .int .i64 q, .int .i64 t] 39 (0, 0))) := Lib.hid (heap_alloc_new w _)
  have Lt0 : Hid (w.heap.size < (w.alloc (.cells #[.int .i64 b, .int .i64 l, .int .i64 q, .int .i64 t] 39)).heap.size) := Lib.hid (by simp)
  have HV := Lib.hid (dtB_eq (b := b) (l := l) (at_ := at_) (n := n) hb.2.2.2.2.2 hb.2.2.1)
  have C1 := Lib.hid (fun W => by have := implDataFirst_any b l q t W hb.1 hb.2.1; rwa [show daOf b l q t = 3 + l from by simp [daOf, hs]] at this)
  generalize dtB b l at_ n = r at *
  unfold InI at hn
  by_cases h1 : 1 ≤ n
  rotate_left
  · have Hf : Hid (r = false) := Lib.hid (by rw [HV.out, decide_eq_false h1]; rfl)
    go_enter Try.func102, Try.ntmps102
    go_wp2_with fail
    go_ret
    exact ⟨by rw [Hf.out]; rfl, Hb0.out⟩
  have hw : wrap64 (b - n) = b - n := by have h := hb.2.2.2.2; unfold wrap64; omega
  have Hw := Lib.hid hw
  have HV2 : Hid (r = (decide (3 + l ≤ at_) && decide (at_ ≤ b - n))) := Lib.hid (by rw [HV.out, decide_eq_true h1]; rfl)
  have h1' : decide (1 ≤ n) = true := decide_eq_true h1
  have Hbb := Lib.hid hb
  clear HV hb hw
  have q0 : (w.alloc (.cells #[.int .i64 b, .int .i64 l, .int .i64 q, .int .i64 t] 39)).cell? ⟨w.heap.size, 0, none⟩ = some (.int .i64 b) := by rw [cell_of_row _ _ _ _ _ _ R0.out]; rfl
  have q1 : (w.alloc (.cells #[.int .i64 b, .int .i64 l, .int .i64 q, .int .i64 t] 39)).cell? ⟨w.heap.size, 1, none⟩ = some (.int .i64 l) := by rw [cell_of_row _ _ _ _ _ _ R0.out]; rfl
  have q2 : (w.alloc (.cells #[.int .i64 b, .int .i64 l, .int .i64 q, .int .i64 t] 39)).cell? ⟨w.heap.size, 2, none⟩ = some (.int .i64 q) := by rw [cell_of_row _ _ _ _ _ _ R0.out]; rfl
  have q3 : (w.alloc (.cells #[.int .i64 b, .int .i64 l, .int .i64 q, .int .i64 t] 39)).cell? ⟨w.heap.size, 3, none⟩ = some (.int .i64 t) := by rw [cell_of_row _ _ _ _ _ _ R0.out]; rfl
  go_enter Try.func102, Try.ntmps102
  go_wp2_with fail
  clear q0 q1 q2 q3
  generalize (w.alloc (.cells #[.int .i64 b, .int .i64 l, .int .i64 q, .int .i64 t] 39)) = w0 at *
  refine (C1.out _).mono ?_
  rintro e w1 ⟨rfl, g⟩
  have Hb1 := Lib.hid (Hb0.out.trans (g.mono Hb0.out.size))
  have R1 := Lib.hid ((g.block _ Lt0.out).trans R0.out)
  clear g C1
  by_cases h2 : 3 + l ≤ at_
  rotate_left
  · have Hf : Hid (r = false) := Lib.hid (by rw [HV2.out, decide_eq_false h2]; rfl)
    go_wp2_with fail
    go_ret
    exact ⟨by rw [Hf.out]; rfl, Hb1.out⟩
  have q0 : w1.cell? ⟨w.heap.size, 0, none⟩ = some (.int .i64 b) := by rw [cell_of_row _ _ _ _ _ _ R1.out]; rfl
  by_cases h3 : at_ ≤ b - n
  · have Hf : Hid (r = true) := Lib.hid (by rw [HV2.out, decide_eq_true h2, decide_eq_true h3]; rfl)
    have h3' : Hid (decide (at_ ≤ wrap64 (b - n)) = true) := Lib.hid (by rw [Hw.out]; exact decide_eq_true h3)
    go_wp2_with fail
    go_ret
    exact ⟨by rw [Hf.out]; first | rfl | exact congrArg (fun x => Ending.returned (.bool x)) h3'.out, Hb1.out⟩
  · have Hf : Hid (r = false) := Lib.hid (by rw [HV2.out, decide_eq_false h3]; simp)
    have h3' : Hid (decide (at_ ≤ wrap64 (b - n)) = false) := Lib.hid (by rw [Hw.out]; exact decide_eq_false h3)
    go_wp2_with fail
    go_ret
    exact ⟨by rw [Hf.out]; first | rfl | exact congrArg (fun x => Ending.returned (.bool x)) h3'.out, Hb1.out⟩
end Go.Proofs.Ytlickjmdlooapaa
namespace Go.Proofs.Ytlickjmdlooapaa
open Go.RowKit
set_option linter.unusedVariables false
set_option maxHeartbeats 4000000 in
set_option maxRecDepth 100000 in
theorem l13Area_any {B g : Nat} {w : World} {v0 v1 v10 v11 : Value} {ss : List ByteArray} {ps lg dt : List Pt} {fz b l q t sq at_ : Int} {off : Bool} (hg : w.heap[g]? = some (.cells #[v0, v1, .int .i64 fz, .bool off, .int .i64 b, .int .i64 l, .int .i64 q, .int .i64 t, .int .i64 sq, .int .i64 at_, v10, v11] 42 (0, 0))) (h0 : RiT B w v0 ss) (h1 : RiU B w v1 ps) (h10 : RiU B w v10 lg) (h11 : RiU B w v11 dt) (hB : B ≤ w.heap.size) (hok : pgrOk ss ps fz off b l q t sq at_ lg dt = true) :
    Calls Try.prog 93 #[.pointer (some ⟨g, 0, none⟩)] w (GivesB (.string (arS ss ps l lg dt)) w) := by
  have hgl : g < w.heap.size := by
    rcases Nat.lt_or_ge g w.heap.size with hl | hl
    · exact hl
    · rw [Array.getElem?_eq_none hl] at hg; cases hg
  have hb := pgrOk_b hok
  have HL := Lib.hid (supOk_l (pgrOk_t hok).1)
  have Hld := Lib.hid (run_load_cells (P := Try.prog) w g 4 39 _ [.int .i64 b, .int .i64 l, .int .i64 q, .int .i64 t] (row_part hg (by intro j u hj; rcases j with _ | _ | _ | _ | j; all_goals first | exact hj | simp at hj)) Try.underlying39 rfl)
  have C2 : Hid (∀ W, Below w.heap.size w W → _) := Lib.hid (fun W hW => l12Get_any (w := W) (k := 2 + l) (fz := fz) (off := off) (b := b) (l := l) (q := q) (t := t) (sq := sq) (at_ := at_) ((hW.block _ hgl).trans hg) (h0.at hB hW) (h1.at hB hW) (h10.at hB hW) (h11.at hB hW) (Nat.le_refl _) (by omega) (by omega))
  have HA : Hid (arS ss ps l lg dt = gtS ss ps lg dt (2 + l)) := Lib.hid rfl
  rw [← HA.out] at C2
  clear HA hb hg hok h0 h1 h10 h11
  generalize arS ss ps l lg dt = ar at *
  go_enter Try.func93, Try.ntmps93
  go_wp2_with (refine wpList_load_agg rfl 39 (.tmp 6) rfl _ rfl _ Hld.out ?_)
  refine (l10Area_any b l q t _ HL.out).mono ?_
  rintro e w1 ⟨rfl, g1⟩
  have Hg1 := Lib.hid g1; clear g1
  go_wp2_with fail
  refine (C2.out _ Hg1.out).mono ?_
  rintro e w2 ⟨rfl, g2⟩
  have Hg2 := Lib.hid (Hg1.out.trans (g2.mono Hg1.out.size)); clear g2
  go_wp2_with fail
  go_ret
  exact ⟨rfl, Hg2.out⟩
set_option maxHeartbeats 4000000 in
set_option maxRecDepth 100000 in
theorem l13First_any {g : Nat} {w : World} {v0 v1 v10 v11 : Value} {fz b l q t sq at_ : Int} {off : Bool} (hg : w.heap[g]? = some (.cells #[v0, v1, .int .i64 fz, .bool off, .int .i64 b, .int .i64 l, .int .i64 q, .int .i64 t, .int .i64 sq, .int .i64 at_, v10, v11] 42 (0, 0))) (hs : supOk b l q t = true) :
    Calls Try.prog 169 #[.pointer (some ⟨g, 0, none⟩)] w (GivesB (.int .i64 (2 + l + 1)) w) := by
  have hb := sup_b hs
  have HL := Lib.hid (supOk_l hs)
  have Hld := Lib.hid (run_load_cells (P := Try.prog) w g 4 39 _ [.int .i64 b, .int .i64 l, .int .i64 q, .int .i64 t] (row_part hg (by intro j u hj; rcases j with _ | _ | _ | _ | j; all_goals first | exact hj | simp at hj)) Try.underlying39 rfl)
  clear hg hs
  have hl := hb.2.2
  clear hb
  go_enter Try.func169, Try.ntmps169
  go_wp2_with (refine wpList_load_agg rfl 39 (.tmp 5) rfl _ rfl _ Hld.out ?_)
  refine (l10Area_any b l q t _ HL.out).mono ?_
  rintro e w1 ⟨rfl, g1⟩
  have Hg1 := Lib.hid g1; clear g1
  go_wp2_with fail
  go_ret
  exact ⟨rfl, Hg1.out⟩
set_option maxHeartbeats 4000000 in
set_option maxRecDepth 100000 in
theorem l13Data_any {g : Nat} {w : World} {v0 v1 v10 v11 : Value} {fz b l q t sq at_ : Int} {off : Bool} (x n : Int) (hg : w.heap[g]? = some (.cells #[v0, v1, .int .i64 fz, .bool off, .int .i64 b, .int .i64 l, .int .i64 q, .int .i64 t, .int .i64 sq, .int .i64 at_, v10, v11] 42 (0, 0))) (hs : supOk b l q t = true) (hx : InI x) :
    Calls Try.prog 91 #[.pointer (some ⟨g, 0, none⟩), .int .i64 x, .int .i64 n] w (GivesB (.bool (dtB b l x n)) w) := by
  have hgl : g < w.heap.size := by
    rcases Nat.lt_or_ge g w.heap.size with hl | hl
    · exact hl
    · rw [Array.getElem?_eq_none hl] at hg; cases hg
  have hb := sup_b hs
  have HV : Hid (dtB b l x n = (inB n 1 256 && (inB x (3 + l) (b - 1) && decide (x + n ≤ b)))) := Lib.hid rfl
  have HF : Hid (∀ W, Below w.heap.size w W → Calls Try.prog 169 #[.pointer (some ⟨g, 0, none⟩)] W (GivesB (.int .i64 (2 + l + 1)) W)) := Lib.hid (fun W hW => l13First_any ((hW.block _ hgl).trans hg) hs)
  have HS : Hid (∀ W, Below w.heap.size w W → W.cell? ⟨g, 4, none⟩ = some (.int .i64 b)) := Lib.hid (fun W hW => by rw [cell_of_row _ _ _ _ _ _ ((hW.block _ hgl).trans hg)]; rfl)
  have I1 := Lib.hid (fun W => l00In_any n 1 256 W)
  have I2 := Lib.hid (fun W => l00In_any x (2 + l + 1) (b - 1) W)
  have e3 : (2 + l + 1 : Int) = 3 + l := by omega
  rw [e3] at HF I2
  clear hg hs
  have hl := hb.2.2
  clear hb
  have HD : Hid (Below w.heap.size w w.drew) := Lib.hid (Below.refl _ _).drew
  have H1 := Lib.hid (@inB_iff n 1 256)
  have H2 := Lib.hid (@inB_iff x (3 + l) (b - 1))
  have hbw : IntKind.i64.wrap (b - 1) = b - 1 := IntWalk.i64_in _ (by omega)
  have Hl := Lib.hid hl
  generalize dtB b l x n = r at *
  generalize inB n 1 256 = y1 at *
  generalize inB x (3 + l) (b - 1) = y2 at *
  unfold InI at hx
  go_enter Try.func91, Try.ntmps91
  go_wp2
  refine wp_region_held_drew (S := (fun W => W.cell? ⟨g, 4, none⟩ = some (.int .i64 b))) (by kernel_rfl) (HS.out _ HD.out) (fun hHeld => ?_)
  refine held_yes 0 (some 7) rfl rfl (by kernel_rfl) (by kernel_rfl) (by kernel_rfl) (fun _ _ _ h => h) (by kernel_rfl) hHeld (v := ?_) (fun wz hSw => ?_) ?_
  rotate_left 1
  · (try dsimp only at hSw); go_simp; (try with_reducible rfl)
  try simp only [Act.put, List.setIfInBounds_toArray, List.set_cons_zero, List.set_cons_succ]
  refine wpAnyH_ready (rs := [1]) (by kernel_rfl) (by simp) ?_
  refine AllReadyH.cons rfl (fun K hK => ?_) AllReadyH.nil
  go_simp
  (go_at_call 80; go_fit (I1.out _); rintro e u0 ⟨rfl, rfl⟩)
  refine hK.out _ _ (HS.out _ HD.out) (fun hHeld => ?_)
  clear hK K
  try simp only [Act.put, List.setIfInBounds_toArray, List.set_cons_zero, List.set_cons_succ]
  cases y1
  · skip
    refine held_yes 2 (some 9) rfl rfl (by kernel_rfl) (by kernel_rfl) (by kernel_rfl) (fun _ _ _ h => h) (by kernel_rfl) hHeld (v := ?_) (fun wz hSw => ?_) ?_
    rotate_left 1
    · (try dsimp only at hSw); go_simp; (try with_reducible rfl)
    try simp only [Act.put, List.setIfInBounds_toArray, List.set_cons_zero, List.set_cons_succ]
    refine held_no 3 (some 10) rfl rfl (by kernel_rfl) (by kernel_rfl) (by kernel_rfl) (fun _ _ _ h => h) (by kernel_rfl) hHeld ?_
    try simp only [Act.put, List.setIfInBounds_toArray, List.set_cons_zero, List.set_cons_succ]
    refine held_no 4 (some 11) rfl rfl (by kernel_rfl) (by kernel_rfl) (by kernel_rfl) (fun _ _ _ h => h) (by kernel_rfl) hHeld ?_
    try simp only [Act.put, List.setIfInBounds_toArray, List.set_cons_zero, List.set_cons_succ]
    refine held_no 6 (some 13) rfl rfl (by kernel_rfl) (by kernel_rfl) (by kernel_rfl) (fun _ _ _ h => h) (by kernel_rfl) hHeld ?_
    try simp only [Act.put, List.setIfInBounds_toArray, List.set_cons_zero, List.set_cons_succ]
    refine held_no 7 (some 14) rfl rfl (by kernel_rfl) (by kernel_rfl) (by kernel_rfl) (fun _ _ _ h => h) (by kernel_rfl) hHeld ?_
    try simp only [Act.put, List.setIfInBounds_toArray, List.set_cons_zero, List.set_cons_succ]
    refine held_no 8 (some 15) rfl rfl (by kernel_rfl) (by kernel_rfl) (by kernel_rfl) (fun _ _ _ h => h) (by kernel_rfl) hHeld ?_
    try simp only [Act.put, List.setIfInBounds_toArray, List.set_cons_zero, List.set_cons_succ]
    refine held_no 9 (some 16) rfl rfl (by kernel_rfl) (by kernel_rfl) (by kernel_rfl) (fun _ _ _ h => h) (by kernel_rfl) hHeld ?_
    try simp only [Act.put, List.setIfInBounds_toArray, List.set_cons_zero, List.set_cons_succ]
    refine held_no 10 (some 17) rfl rfl (by kernel_rfl) (by kernel_rfl) (by kernel_rfl) (fun _ _ _ h => h) (by kernel_rfl) hHeld ?_
    try simp only [Act.put, List.setIfInBounds_toArray, List.set_cons_zero, List.set_cons_succ]
    refine held_no 11 (some 18) rfl rfl (by kernel_rfl) (by kernel_rfl) (by kernel_rfl) (fun _ _ _ h => h) (by kernel_rfl) hHeld ?_
    try simp only [Act.put, List.setIfInBounds_toArray, List.set_cons_zero, List.set_cons_succ]
    refine held_no 5 (some 12) rfl rfl (by kernel_rfl) (by kernel_rfl) (by kernel_rfl) (fun _ _ _ h => h) (by kernel_rfl) hHeld ?_
    try simp only [Act.put, List.setIfInBounds_toArray, List.set_cons_zero, List.set_cons_succ]
    refine held_no 12 (some 19) rfl rfl (by kernel_rfl) (by kernel_rfl) (by kernel_rfl) (fun _ _ _ h => h) (by kernel_rfl) hHeld ?_
    try simp only [Act.put, List.setIfInBounds_toArray, List.set_cons_zero, List.set_cons_succ]
    refine held_yes 13 (some 20) rfl rfl (by kernel_rfl) (by kernel_rfl) (by kernel_rfl) (fun _ _ _ h => h) (by kernel_rfl) hHeld (v := ?_) (fun wz hSw => ?_) ?_
    rotate_left 1
    · (try dsimp only at hSw); go_simp; (try with_reducible rfl)
    try simp only [Act.put, List.setIfInBounds_toArray, List.set_cons_zero, List.set_cons_succ]
    refine held_yes 14 (some 21) rfl rfl (by kernel_rfl) (by kernel_rfl) (by kernel_rfl) (fun _ _ _ h => h) (by kernel_rfl) hHeld (v := ?_) (fun wz hSw => ?_) ?_
    rotate_left 1
    · (try dsimp only at hSw); go_simp; (try with_reducible rfl)
    try simp only [Act.put, List.setIfInBounds_toArray, List.set_cons_zero, List.set_cons_succ]
    refine held_no 15 (some 22) rfl rfl (by kernel_rfl) (by kernel_rfl) (by kernel_rfl) (fun _ _ _ h => h) (by kernel_rfl) hHeld ?_
    try simp only [Act.put, List.setIfInBounds_toArray, List.set_cons_zero, List.set_cons_succ]
    refine held_no 16 (some 23) rfl rfl (by kernel_rfl) (by kernel_rfl) (by kernel_rfl) (fun _ _ _ h => h) (by kernel_rfl) hHeld ?_
    try simp only [Act.put, List.setIfInBounds_toArray, List.set_cons_zero, List.set_cons_succ]
    refine held_no 17 (some 24) rfl rfl (by kernel_rfl) (by kernel_rfl) (by kernel_rfl) (fun _ _ _ h => h) (by kernel_rfl) hHeld ?_
    try simp only [Act.put, List.setIfInBounds_toArray, List.set_cons_zero, List.set_cons_succ]
    refine held_no 18 (some 25) rfl rfl (by kernel_rfl) (by kernel_rfl) (by kernel_rfl) (fun _ _ _ h => h) (by kernel_rfl) hHeld ?_
    try simp only [Act.put, List.setIfInBounds_toArray, List.set_cons_zero, List.set_cons_succ]
    refine held_no 19 (some 26) rfl rfl (by kernel_rfl) (by kernel_rfl) (by kernel_rfl) (fun _ _ _ h => h) (by kernel_rfl) hHeld ?_
    try simp only [Act.put, List.setIfInBounds_toArray, List.set_cons_zero, List.set_cons_succ]
    refine held_no 20 (some 27) rfl rfl (by kernel_rfl) (by kernel_rfl) (by kernel_rfl) (fun _ _ _ h => h) (by kernel_rfl) hHeld ?_
    try simp only [Act.put, List.setIfInBounds_toArray, List.set_cons_zero, List.set_cons_succ]
    refine held_no 21 (some 28) rfl rfl (by kernel_rfl) (by kernel_rfl) (by kernel_rfl) (fun _ _ _ h => h) (by kernel_rfl) hHeld ?_
    try simp only [Act.put, List.setIfInBounds_toArray, List.set_cons_zero, List.set_cons_succ]
    refine held_no 22 (some 29) rfl rfl (by kernel_rfl) (by kernel_rfl) (by kernel_rfl) (fun _ _ _ h => h) (by kernel_rfl) hHeld ?_
    try simp only [Act.put, List.setIfInBounds_toArray, List.set_cons_zero, List.set_cons_succ]
    refine held_no 23 (some 30) rfl rfl (by kernel_rfl) (by kernel_rfl) (by kernel_rfl) (fun _ _ _ h => h) (by kernel_rfl) hHeld ?_
    try simp only [Act.put, List.setIfInBounds_toArray, List.set_cons_zero, List.set_cons_succ]
    refine held_yes 24 (some 31) rfl rfl (by kernel_rfl) (by kernel_rfl) (by kernel_rfl) (fun _ _ _ h => h) (by kernel_rfl) hHeld (v := ?_) (fun wz hSw => ?_) ?_
    rotate_left 1
    · (try dsimp only at hSw); go_simp; (try with_reducible rfl)
    try simp only [Act.put, List.setIfInBounds_toArray, List.set_cons_zero, List.set_cons_succ]
    refine held_yes 25 (some 6) rfl rfl (by kernel_rfl) (by kernel_rfl) (by kernel_rfl) (fun _ _ _ h => h) (by kernel_rfl) hHeld (v := ?_) (fun wz hSw => ?_) ?_
    rotate_left 1
    · (try dsimp only at hSw); go_simp; (try with_reducible rfl)
    try simp only [Act.put, List.setIfInBounds_toArray, List.set_cons_zero, List.set_cons_succ]
    refine wpAnyH_done (by kernel_rfl) ?_ _
    try simp only [Exit.then]
    have Hf : Hid (r = false) := Lib.hid (by rw [HV.out]; rfl)
    go_wp2_with fail
    go_ret
    exact ⟨by rw [Hf.out]; rfl, HD.out⟩
  refine held_yes 2 (some 9) rfl rfl (by kernel_rfl) (by kernel_rfl) (by kernel_rfl) (fun _ _ _ h => h) (by kernel_rfl) hHeld (v := ?_) (fun wz hSw => ?_) ?_
  rotate_left 1
  · (try dsimp only at hSw); go_simp; (try with_reducible rfl)
  try simp only [Act.put, List.setIfInBounds_toArray, List.set_cons_zero, List.set_cons_succ]
  refine held_yes 3 (some 10) rfl rfl (by kernel_rfl) (by kernel_rfl) (by kernel_rfl) (fun _ _ _ h => h) (by kernel_rfl) hHeld (v := ?_) (fun wz hSw => ?_) ?_
  rotate_left 1
  · (try dsimp only at hSw); go_simp; (try with_reducible rfl)
  try simp only [Act.put, List.setIfInBounds_toArray, List.set_cons_zero, List.set_cons_succ]
  refine held_yes 4 (some 11) rfl rfl (by kernel_rfl) (by kernel_rfl) (by kernel_rfl) (fun _ _ _ h => h) (by kernel_rfl) hHeld (v := ?_) (fun wz hSw => ?_) ?_
  rotate_left 1
  · (try dsimp only at hSw); go_simp; (try with_reducible rfl)
  try simp only [Act.put, List.setIfInBounds_toArray, List.set_cons_zero, List.set_cons_succ]
  refine held_yes 6 (some 13) rfl rfl (by kernel_rfl) (by kernel_rfl) (by kernel_rfl) (fun _ _ _ h => h) (by kernel_rfl) hHeld (v := ?_) (fun wz hSw => ?_) ?_
  rotate_left 1
  · (try dsimp only at hSw); go_simp; (try with_reducible rfl)
  try simp only [Act.put, List.setIfInBounds_toArray, List.set_cons_zero, List.set_cons_succ]
  refine held_yes 7 (some 14) rfl rfl (by kernel_rfl) (by kernel_rfl) (by kernel_rfl) (fun _ _ _ h => h) (by kernel_rfl) hHeld (v := ?_) (fun wz hSw => ?_) ?_
  rotate_left 1
  · (try dsimp only at hSw); go_simp; (try with_reducible rfl)
  try simp only [Act.put, List.setIfInBounds_toArray, List.set_cons_zero, List.set_cons_succ]
  refine held_yes 8 (some 15) rfl rfl (by kernel_rfl) (by kernel_rfl) (by kernel_rfl) (fun _ _ _ h => h) (by kernel_rfl) hHeld (v := ?_) (fun wz hSw => ?_) ?_
  rotate_left 1
  · (try dsimp only at hSw); go_simp; (try with_reducible rfl)
  try simp only [Act.put, List.setIfInBounds_toArray, List.set_cons_zero, List.set_cons_succ]
  refine held_yes 9 (some 16) rfl rfl (by kernel_rfl) (by kernel_rfl) (by kernel_rfl) (fun _ _ _ h => h) (by kernel_rfl) hHeld (v := ?_) (fun wz hSw => ?_) ?_
  rotate_left 1
  · (try dsimp only at hSw); go_simp; (try with_reducible rfl)
  try simp only [Act.put, List.setIfInBounds_toArray, List.set_cons_zero, List.set_cons_succ]
  refine held_yes 10 (some 17) rfl rfl (by kernel_rfl) (by kernel_rfl) (by kernel_rfl) (fun _ _ _ h => h) (by kernel_rfl) hHeld (v := ?_) (fun wz hSw => ?_) ?_
  rotate_left 1
  · (try dsimp only at hSw); go_simp; (try with_reducible rfl)
  try simp only [Act.put, List.setIfInBounds_toArray, List.set_cons_zero, List.set_cons_succ]
  refine held_yes 11 (some 18) rfl rfl (by kernel_rfl) (by kernel_rfl) (by kernel_rfl) (fun _ _ _ h => h) (by kernel_rfl) hHeld (v := ?_) (fun wz hSw => ?_) ?_
  rotate_left 1
  · (try dsimp only at hSw); go_simp; (try with_reducible rfl)
  try simp only [Act.put, List.setIfInBounds_toArray, List.set_cons_zero, List.set_cons_succ]
  refine wpAnyH_ready (rs := [5]) (by kernel_rfl) (by simp) ?_
  refine AllReadyH.cons rfl (fun K hK => ?_) AllReadyH.nil
  go_simp
  (go_at_call 169; go_fit (HF.out _ HD.out); rintro e u1 ⟨rfl, g1⟩; have kb1 : Below w.heap.size w u1 := HD.out.trans (g1.mono HD.out.size); clear g1)
  refine hK.out _ _ (HS.out _ kb1) (fun hHeld => ?_)
  clear hK K
  try simp only [Act.put, List.setIfInBounds_toArray, List.set_cons_zero, List.set_cons_succ]
  refine wpAnyH_ready (rs := [12]) (by kernel_rfl) (by simp) ?_
  refine AllReadyH.cons rfl (fun K hK => ?_) AllReadyH.nil
  go_simp
  (go_at_call 80; go_fit (I2.out _); rintro e u2 ⟨rfl, rfl⟩)
  refine hK.out _ _ (HS.out _ kb1) (fun hHeld => ?_)
  clear hK K
  try simp only [Act.put, List.setIfInBounds_toArray, List.set_cons_zero, List.set_cons_succ]
  have hn := H1.out.1 rfl
  cases y2
  · skip
    refine held_yes 13 (some 20) rfl rfl (by kernel_rfl) (by kernel_rfl) (by kernel_rfl) (fun _ _ _ h => h) (by kernel_rfl) hHeld (v := ?_) (fun wz hSw => ?_) ?_
    rotate_left 1
    · (try dsimp only at hSw); go_simp; (try with_reducible rfl)
    try simp only [Act.put, List.setIfInBounds_toArray, List.set_cons_zero, List.set_cons_succ]
    refine held_yes 14 (some 21) rfl rfl (by kernel_rfl) (by kernel_rfl) (by kernel_rfl) (fun _ _ _ h => h) (by kernel_rfl) hHeld (v := ?_) (fun wz hSw => ?_) ?_
    rotate_left 1
    · (try dsimp only at hSw); go_simp; (try with_reducible rfl)
    try simp only [Act.put, List.setIfInBounds_toArray, List.set_cons_zero, List.set_cons_succ]
    refine held_no 15 (some 22) rfl rfl (by kernel_rfl) (by kernel_rfl) (by kernel_rfl) (fun _ _ _ h => h) (by kernel_rfl) hHeld ?_
    try simp only [Act.put, List.setIfInBounds_toArray, List.set_cons_zero, List.set_cons_succ]
    refine held_no 16 (some 23) rfl rfl (by kernel_rfl) (by kernel_rfl) (by kernel_rfl) (fun _ _ _ h => h) (by kernel_rfl) hHeld ?_
    try simp only [Act.put, List.setIfInBounds_toArray, List.set_cons_zero, List.set_cons_succ]
    refine held_no 17 (some 24) rfl rfl (by kernel_rfl) (by kernel_rfl) (by kernel_rfl) (fun _ _ _ h => h) (by kernel_rfl) hHeld ?_
    try simp only [Act.put, List.setIfInBounds_toArray, List.set_cons_zero, List.set_cons_succ]
    refine held_no 18 (some 25) rfl rfl (by kernel_rfl) (by kernel_rfl) (by kernel_rfl) (fun _ _ _ h => h) (by kernel_rfl) hHeld ?_
    try simp only [Act.put, List.setIfInBounds_toArray, List.set_cons_zero, List.set_cons_succ]
    refine held_no 19 (some 26) rfl rfl (by kernel_rfl) (by kernel_rfl) (by kernel_rfl) (fun _ _ _ h => h) (by kernel_rfl) hHeld ?_
    try simp only [Act.put, List.setIfInBounds_toArray, List.set_cons_zero, List.set_cons_succ]
    refine held_no 20 (some 27) rfl rfl (by kernel_rfl) (by kernel_rfl) (by kernel_rfl) (fun _ _ _ h => h) (by kernel_rfl) hHeld ?_
    try simp only [Act.put, List.setIfInBounds_toArray, List.set_cons_zero, List.set_cons_succ]
    refine held_no 21 (some 28) rfl rfl (by kernel_rfl) (by kernel_rfl) (by kernel_rfl) (fun _ _ _ h => h) (by kernel_rfl) hHeld ?_
    try simp only [Act.put, List.setIfInBounds_toArray, List.set_cons_zero, List.set_cons_succ]
    refine held_no 22 (some 29) rfl rfl (by kernel_rfl) (by kernel_rfl) (by kernel_rfl) (fun _ _ _ h => h) (by kernel_rfl) hHeld ?_
    try simp only [Act.put, List.setIfInBounds_toArray, List.set_cons_zero, List.set_cons_succ]
    refine held_no 23 (some 30) rfl rfl (by kernel_rfl) (by kernel_rfl) (by kernel_rfl) (fun _ _ _ h => h) (by kernel_rfl) hHeld ?_
    try simp only [Act.put, List.setIfInBounds_toArray, List.set_cons_zero, List.set_cons_succ]
    refine held_yes 24 (some 31) rfl rfl (by kernel_rfl) (by kernel_rfl) (by kernel_rfl) (fun _ _ _ h => h) (by kernel_rfl) hHeld (v := ?_) (fun wz hSw => ?_) ?_
    rotate_left 1
    · (try dsimp only at hSw); go_simp; (try with_reducible rfl)
    try simp only [Act.put, List.setIfInBounds_toArray, List.set_cons_zero, List.set_cons_succ]
    refine held_yes 25 (some 6) rfl rfl (by kernel_rfl) (by kernel_rfl) (by kernel_rfl) (fun _ _ _ h => h) (by kernel_rfl) hHeld (v := ?_) (fun wz hSw => ?_) ?_
    rotate_left 1
    · (try dsimp only at hSw); go_simp; (try with_reducible rfl)
    try simp only [Act.put, List.setIfInBounds_toArray, List.set_cons_zero, List.set_cons_succ]
    refine wpAnyH_done (by kernel_rfl) ?_ _
    try simp only [Exit.then]
    have Hf : Hid (r = false) := Lib.hid (by rw [HV.out]; rfl)
    go_wp2_with fail
    go_ret
    exact ⟨by rw [Hf.out]; rfl, kb1⟩
  refine held_yes 13 (some 20) rfl rfl (by kernel_rfl) (by kernel_rfl) (by kernel_rfl) (fun _ _ _ h => h) (by kernel_rfl) hHeld (v := ?_) (fun wz hSw => ?_) ?_
  rotate_left 1
  · (try dsimp only at hSw); go_simp; (try with_reducible rfl)
  try simp only [Act.put, List.setIfInBounds_toArray, List.set_cons_zero, List.set_cons_succ]
  refine held_yes 14 (some 21) rfl rfl (by kernel_rfl) (by kernel_rfl) (by kernel_rfl) (fun _ _ _ h => h) (by kernel_rfl) hHeld (v := ?_) (fun wz hSw => ?_) ?_
  rotate_left 1
  · (try dsimp only at hSw); go_simp; (try with_reducible rfl)
  try simp only [Act.put, List.setIfInBounds_toArray, List.set_cons_zero, List.set_cons_succ]
  refine held_yes 15 (some 22) rfl rfl (by kernel_rfl) (by kernel_rfl) (by kernel_rfl) (fun _ _ _ h => h) (by kernel_rfl) hHeld (v := ?_) (fun wz hSw => ?_) ?_
  rotate_left 1
  · (try dsimp only at hSw); go_simp; (try with_reducible rfl)
  try simp only [Act.put, List.setIfInBounds_toArray, List.set_cons_zero, List.set_cons_succ]
  refine held_yes 16 (some 23) rfl rfl (by kernel_rfl) (by kernel_rfl) (by kernel_rfl) (fun _ _ _ h => h) (by kernel_rfl) hHeld (v := ?_) (fun wz hSw => ?_) ?_
  rotate_left 1
  · (try dsimp only at hSw); go_simp; (try with_reducible rfl)
  try simp only [Act.put, List.setIfInBounds_toArray, List.set_cons_zero, List.set_cons_succ]
  refine held_yes 17 (some 24) rfl rfl (by kernel_rfl) (by kernel_rfl) (by kernel_rfl) (fun _ _ _ h => h) (by kernel_rfl) hHeld (v := ?_) (fun wz hSw => ?_) ?_
  rotate_left 1
  · (try dsimp only at hSw); go_simp; (try with_reducible rfl)
  try simp only [Act.put, List.setIfInBounds_toArray, List.set_cons_zero, List.set_cons_succ]
  refine held_yes 18 (some 25) rfl rfl (by kernel_rfl) (by kernel_rfl) (by kernel_rfl) (fun _ _ _ h => h) (by kernel_rfl) hHeld (v := ?_) (fun wz hSw => ?_) ?_
  rotate_left 1
  · (try dsimp only at hSw); go_simp; (try with_reducible rfl)
  try simp only [Act.put, List.setIfInBounds_toArray, List.set_cons_zero, List.set_cons_succ]
  refine held_yes 19 (some 26) rfl rfl (by kernel_rfl) (by kernel_rfl) (by kernel_rfl) (fun _ _ _ h => h) (by kernel_rfl) hHeld (v := ?_) (fun wz hSw => ?_) ?_
  rotate_left 1
  · (try dsimp only at hSw); go_simp; (try with_reducible rfl)
  try simp only [Act.put, List.setIfInBounds_toArray, List.set_cons_zero, List.set_cons_succ]
  refine held_yes 20 (some 27) rfl rfl (by kernel_rfl) (by kernel_rfl) (by kernel_rfl) (fun _ _ _ h => h) (by kernel_rfl) hHeld (v := ?_) (fun wz hSw => ?_) ?_
  rotate_left 1
  · (try dsimp only at hSw); go_simp; (try with_reducible rfl)
  try simp only [Act.put, List.setIfInBounds_toArray, List.set_cons_zero, List.set_cons_succ]
  refine held_yes 21 (some 28) rfl rfl (by kernel_rfl) (by kernel_rfl) (by kernel_rfl) (fun _ _ _ h => h) (by kernel_rfl) hHeld (v := ?_) (fun wz hSw => ?_) ?_
  rotate_left 1
  · (try dsimp only at hSw); go_simp; (try with_reducible rfl)
  try simp only [Act.put, List.setIfInBounds_toArray, List.set_cons_zero, List.set_cons_succ]
  refine held_yes 22 (some 29) rfl rfl (by kernel_rfl) (by kernel_rfl) (by kernel_rfl) (fun _ _ _ h => h) (by kernel_rfl) hHeld (v := ?_) (fun wz hSw => ?_) ?_
  rotate_left 1
  · (try dsimp only at hSw); go_simp; (try with_reducible rfl)
  try simp only [Act.put, List.setIfInBounds_toArray, List.set_cons_zero, List.set_cons_succ]
  refine held_yes 23 (some 30) rfl rfl (by kernel_rfl) (by kernel_rfl) (by kernel_rfl) (fun _ _ _ h => h) (by kernel_rfl) hHeld (v := ?_) (fun wz hSw => ?_) ?_
  rotate_left 1
  · (try dsimp only at hSw); go_simp; (try with_reducible rfl)
  try simp only [Act.put, List.setIfInBounds_toArray, List.set_cons_zero, List.set_cons_succ]
  refine held_yes 24 (some 31) rfl rfl (by kernel_rfl) (by kernel_rfl) (by kernel_rfl) (fun _ _ _ h => h) (by kernel_rfl) hHeld (v := ?_) (fun wz hSw => ?_) ?_
  rotate_left 1
  · (try dsimp only at hSw); go_simp; (try with_reducible rfl)
  try simp only [Act.put, List.setIfInBounds_toArray, List.set_cons_zero, List.set_cons_succ]
  refine held_yes 25 (some 6) rfl rfl (by kernel_rfl) (by kernel_rfl) (by kernel_rfl) (fun _ _ _ h => h) (by kernel_rfl) hHeld (v := ?_) (fun wz hSw => ?_) ?_
  rotate_left 1
  · (try dsimp only at hSw); go_simp; (try with_reducible rfl)
  try simp only [Act.put, List.setIfInBounds_toArray, List.set_cons_zero, List.set_cons_succ]
  refine wpAnyH_done (by kernel_rfl) ?_ _
  try simp only [Exit.then]
  have Hf : Hid (r = decide (x + n ≤ b)) := Lib.hid (by rw [HV.out]; rfl)
  have hn2 := H1.out.1 rfl
  have hx2 := H2.out.1 rfl
  have hs9 := Hl.out
  have hw9 : IntKind.i64.wrap (x + n) = x + n := IntWalk.i64_in _ (by omega)
  go_wp2_with fail
  go_ret
  exact ⟨by rw [Hf.out]; first | rfl | (show Ending.returned (.bool (decide (IntKind.i64.wrap (x + n) ≤ b))) = _; rw [hw9]), kb1⟩
/-- The root, and the code. -/
def roV (ss : List ByteArray) (ps : List Pt) (fz : Int) (off : Bool) (b l q t sq at_ : Int) (lg dt : List Pt) : Int := if pgrOk ss ps fz off b l q t sq at_ lg dt then nV (arS ss ps l lg dt) 2 else 0
def roC (ss : List ByteArray) (ps : List Pt) (fz : Int) (off : Bool) (b l q t sq at_ : Int) (lg dt : List Pt) : Int := if pgrOk ss ps fz off b l q t sq at_ lg dt then 0 else 1
def iaV (ss : List ByteArray) (ps : List Pt) (fz : Int) (off : Bool) (b l q t sq at_ : Int) (lg dt : List Pt) (k : Int) : Bool := pgrOk ss ps fz off b l q t sq at_ lg dt && (dtB b l k 1 && aB (arS ss ps l lg dt) k.toNat)
theorem nV_get {s : ByteArray} (hs : s.size = 64) : ∃ ok, getU s 0 2 = .tuple #[.int .i64 (nV s 2), .bool ok] := by
  have h := getU_gV s 0 2 (by omega) (by omega) (by omega)
  unfold nV
  rw [if_pos (by omega)]
  exact ⟨_, h⟩
set_option maxHeartbeats 4000000 in
set_option maxRecDepth 100000 in
theorem l13Root_any {B g : Nat} {w : World} {v0 v1 v10 v11 : Value} {ss : List ByteArray} {ps lg dt : List Pt} {fz b l q t sq at_ : Int} {off : Bool} (hg : w.heap[g]? = some (.cells #[v0, v1, .int .i64 fz, .bool off, .int .i64 b, .int .i64 l, .int .i64 q, .int .i64 t, .int .i64 sq, .int .i64 at_, v10, v11] 42 (0, 0))) (h0 : RiT B w v0 ss) (h1 : RiU B w v1 ps) (h10 : RiU B w v10 lg) (h11 : RiU B w v11 dt) (hB : B ≤ w.heap.size) (hok : pgrOk ss ps fz off b l q t sq at_ lg dt = true) :
    Calls Try.prog 84 #[.pointer (some ⟨g, 0, none⟩)] w (GivesB (.int .i64 (nV (arS ss ps l lg dt) 2)) w) := by
  have C1 := Lib.hid (l13Area_any hg h0 h1 h10 h11 hB hok)
  have hz := arS_64 hok
  obtain ⟨ok, hgt⟩ := nV_get hz
  have C2 := Lib.hid (fun W => l01GetUint_any (arS ss ps l lg dt) 0 2 (by omega) (by omega) W)
  rw [hgt] at C2
  clear hgt hok hg h0 h1 h10 h11 hz
  generalize nV (arS ss ps l lg dt) 2 = x at *
  generalize arS ss ps l lg dt = ar at *
  go_enter Try.func84, Try.ntmps84
  go_wp2_with fail
  refine C1.out.mono ?_
  rintro e w1 ⟨rfl, g1⟩
  have Hg1 := Lib.hid g1; clear g1
  go_wp2_with ((go_at_call 121; refine (C2.out _).mono ?_; rintro e w' ⟨rfl, rfl⟩))
  go_ret
  exact ⟨rfl, Hg1.out⟩
set_option maxHeartbeats 4000000 in
set_option maxRecDepth 100000 in
theorem specRootOf_any {B : Nat} {w : World} {v0 v1 v10 v11 : Value} {ss : List ByteArray} {ps lg dt : List Pt} {fz b l q t sq at_ : Int} {off : Bool}  (h0 : RiT B w v0 ss) (h1 : RiU B w v1 ps) (h10 : RiU B w v10 lg) (h11 : RiU B w v11 dt) (hB : B ≤ w.heap.size) (i4 : InI b) (i5 : InI l) :
    Calls Try.prog 22 #[.agg #[v0, v1, .int .i64 fz, .bool off, .int .i64 b, .int .i64 l, .int .i64 q, .int .i64 t, .int .i64 sq, .int .i64 at_, v10, v11]] w (GivesB (.tuple #[.int .i64 (roV ss ps fz off b l q t sq at_ lg dt), .int .i64 (roC ss ps fz off b l q t sq at_ lg dt)]) w) := by
  have Hb0 : Hid (Below w.heap.size w (w.alloc (.cells #[v0, v1, .int .i64 fz, .bool off, .int .i64 b, .int .i64 l, .int .i64 q, .int .i64 t, .int .i64 sq, .int .i64 at_, v10, v11] 42))) := Lib.hid ((Below.refl _ w).alloc (Nat.le_refl _) _)
  have R0 : Hid ((w.alloc (.cells #[v0, v1, .int .i64 fz, .bool off, .int .i64 b, .int .i64 l, .int .i64 q, .int .i64 t, .int .i64 sq, .int .i64 at_, v10, v11] 42)).heap[w.heap.size]? = some (.cells #[v0, v1, .int .i64 fz, .bool off, .int .i64 b, .int .i64 l, .int .i64 q, .int .i64 t, .int .i64 sq, .int .i64 at_, v10, v11] 42 (0, 0))) := Lib.hid (heap_alloc_new w _)
  have Lt0 : Hid (w.heap.size < (w.alloc (.cells #[v0, v1, .int .i64 fz, .bool off, .int .i64 b, .int .i64 l, .int .i64 q, .int .i64 t, .int .i64 sq, .int .i64 at_, v10, v11] 42)).heap.size) := Lib.hid (by simp)
  have C1 := Lib.hid (l12Ok_any R0.out (h0.at hB Hb0.out) (h1.at hB Hb0.out) (h10.at hB Hb0.out) (h11.at hB Hb0.out) (Nat.le_refl _) i4 i5)
  have C2 : Hid (pgrOk ss ps fz off b l q t sq at_ lg dt = true → ∀ W, Below (w.alloc (.cells #[v0, v1, .int .i64 fz, .bool off, .int .i64 b, .int .i64 l, .int .i64 q, .int .i64 t, .int .i64 sq, .int .i64 at_, v10, v11] 42)).heap.size (w.alloc (.cells #[v0, v1, .int .i64 fz, .bool off, .int .i64 b, .int .i64 l, .int .i64 q, .int .i64 t, .int .i64 sq, .int .i64 at_, v10, v11] 42)) W → _) := Lib.hid (fun hok W hW => l13Root_any (w := W) ((hW.block _ Lt0.out).trans R0.out) (h0.at hB (Hb0.out.trans (hW.mono Hb0.out.size))) (h1.at hB (Hb0.out.trans (hW.mono Hb0.out.size))) (h10.at hB (Hb0.out.trans (hW.mono Hb0.out.size))) (h11.at hB (Hb0.out.trans (hW.mono Hb0.out.size))) (Nat.le_refl _) hok)
  have HV : Hid (roV ss ps fz off b l q t sq at_ lg dt = (if pgrOk ss ps fz off b l q t sq at_ lg dt then nV (arS ss ps l lg dt) 2 else 0) ∧ roC ss ps fz off b l q t sq at_ lg dt = (if pgrOk ss ps fz off b l q t sq at_ lg dt then 0 else 1)) := Lib.hid ⟨rfl, rfl⟩
  generalize roV ss ps fz off b l q t sq at_ lg dt = rv at *
  generalize roC ss ps fz off b l q t sq at_ lg dt = rc at *
  generalize nV (arS ss ps l lg dt) 2 = x at *
  generalize pgrOk ss ps fz off b l q t sq at_ lg dt = z at *
  clear h0 h1 h10 h11
  go_enter Try.func22, Try.ntmps22
  go_wp2_with fail
  generalize (w.alloc (.cells #[v0, v1, .int .i64 fz, .bool off, .int .i64 b, .int .i64 l, .int .i64 q, .int .i64 t, .int .i64 sq, .int .i64 at_, v10, v11] 42)) = w0 at *
  refine C1.out.mono ?_
  rintro e w1 ⟨rfl, g⟩
  have Hg1 := Lib.hid g
  have Hb1 := Lib.hid (Hb0.out.trans (g.mono Hb0.out.size)); clear g
  cases z
  · have Hf : Hid (rv = 0 ∧ rc = 1) := Lib.hid HV.out
    go_wp2_with fail
    go_ret2
    exact ⟨by rw [Hf.out.1, Hf.out.2]; rfl, Hb1.out⟩
  have Hf : Hid (rv = x ∧ rc = 0) := Lib.hid HV.out
  go_wp2_with fail
  refine (C2.out (by first | rfl | trivial) _ Hg1.out).mono ?_
  rintro e w2 ⟨rfl, g⟩
  have Hb2 := Lib.hid (Hb1.out.trans (g.mono Hb1.out.size)); clear g
  go_wp2_with fail
  go_ret2
  exact ⟨by rw [Hf.out.1, Hf.out.2]; rfl, Hb2.out⟩
set_option maxHeartbeats 4000000 in
set_option maxRecDepth 100000 in
theorem specIsAllocated_any {B : Nat} {w : World} {v0 v1 v10 v11 : Value} {ss : List ByteArray} {ps lg dt : List Pt} {fz b l q t sq at_ : Int} {off : Bool} {k : Int} (h0 : RiT B w v0 ss) (h1 : RiU B w v1 ps) (h10 : RiU B w v10 lg) (h11 : RiU B w v11 dt) (hk : (Lit.int .i64 k).wf = true) (hB : B ≤ w.heap.size) (i4 : InI b) (i5 : InI l) :
    Calls Try.prog 26 #[.agg #[v0, v1, .int .i64 fz, .bool off, .int .i64 b, .int .i64 l, .int .i64 q, .int .i64 t, .int .i64 sq, .int .i64 at_, v10, v11], .int .i64 k] w (GivesB (.bool (iaV ss ps fz off b l q t sq at_ lg dt k)) w) := by
  have Hb0 : Hid (Below w.heap.size w (w.alloc (.cells #[v0, v1, .int .i64 fz, .bool off, .int .i64 b, .int .i64 l, .int .i64 q, .int .i64 t, .int .i64 sq, .int .i64 at_, v10, v11] 42))) := Lib.hid ((Below.refl _ w).alloc (Nat.le_refl _) _)
  have R0 : Hid ((w.alloc (.cells #[v0, v1, .int .i64 fz, .bool off, .int .i64 b, .int .i64 l, .int .i64 q, .int .i64 t, .int .i64 sq, .int .i64 at_, v10, v11] 42)).heap[w.heap.size]? = some (.cells #[v0, v1, .int .i64 fz, .bool off, .int .i64 b, .int .i64 l, .int .i64 q, .int .i64 t, .int .i64 sq, .int .i64 at_, v10, v11] 42 (0, 0))) := Lib.hid (heap_alloc_new w _)
  have Lt0 : Hid (w.heap.size < (w.alloc (.cells #[v0, v1, .int .i64 fz, .bool off, .int .i64 b, .int .i64 l, .int .i64 q, .int .i64 t, .int .i64 sq, .int .i64 at_, v10, v11] 42)).heap.size) := Lib.hid (by simp)
  have C1 := Lib.hid (l12Ok_any R0.out (h0.at hB Hb0.out) (h1.at hB Hb0.out) (h10.at hB Hb0.out) (h11.at hB Hb0.out) (Nat.le_refl _) i4 i5)
  have hk2 := i64_bounds hk
  have C2 : Hid (pgrOk ss ps fz off b l q t sq at_ lg dt = true → ∀ W, Below (w.alloc (.cells #[v0, v1, .int .i64 fz, .bool off, .int .i64 b, .int .i64 l, .int .i64 q, .int .i64 t, .int .i64 sq, .int .i64 at_, v10, v11] 42)).heap.size (w.alloc (.cells #[v0, v1, .int .i64 fz, .bool off, .int .i64 b, .int .i64 l, .int .i64 q, .int .i64 t, .int .i64 sq, .int .i64 at_, v10, v11] 42)) W → _) := Lib.hid (fun hok W hW => l13Data_any (w := W) k 1 ((hW.block _ Lt0.out).trans R0.out) (pgrOk_t hok).1 (by unfold InI; omega))
  have C3 : Hid (pgrOk ss ps fz off b l q t sq at_ lg dt = true → ∀ W, Below (w.alloc (.cells #[v0, v1, .int .i64 fz, .bool off, .int .i64 b, .int .i64 l, .int .i64 q, .int .i64 t, .int .i64 sq, .int .i64 at_, v10, v11] 42)).heap.size (w.alloc (.cells #[v0, v1, .int .i64 fz, .bool off, .int .i64 b, .int .i64 l, .int .i64 q, .int .i64 t, .int .i64 sq, .int .i64 at_, v10, v11] 42)) W → _) := Lib.hid (fun hok W hW => l13Area_any (w := W) ((hW.block _ Lt0.out).trans R0.out) (h0.at hB (Hb0.out.trans (hW.mono Hb0.out.size))) (h1.at hB (Hb0.out.trans (hW.mono Hb0.out.size))) (h10.at hB (Hb0.out.trans (hW.mono Hb0.out.size))) (h11.at hB (Hb0.out.trans (hW.mono Hb0.out.size))) (Nat.le_refl _) hok)
  have HV : Hid (iaV ss ps fz off b l q t sq at_ lg dt k = (pgrOk ss ps fz off b l q t sq at_ lg dt && (dtB b l k 1 && aB (arS ss ps l lg dt) k.toNat))) := Lib.hid rfl
  have HK : Hid (pgrOk ss ps fz off b l q t sq at_ lg dt = true → dtB b l k 1 = true → (0 ≤ k ∧ k < 256) ∧ (arS ss ps l lg dt).size = 64) := Lib.hid (fun hok hd => by
    have hb := pgrOk_b hok
    have := (dtB_iff (by omega) (by omega)).1 hd
    exact ⟨by omega, arS_64 hok⟩)
  generalize iaV ss ps fz off b l q t sq at_ lg dt k = r at *
  generalize dtB b l k 1 = y at *
  generalize pgrOk ss ps fz off b l q t sq at_ lg dt = z at *
  clear h0 h1 h10 h11 hk hk2
  go_enter Try.func26, Try.ntmps26
  go_wp2_with fail
  generalize (w.alloc (.cells #[v0, v1, .int .i64 fz, .bool off, .int .i64 b, .int .i64 l, .int .i64 q, .int .i64 t, .int .i64 sq, .int .i64 at_, v10, v11] 42)) = w0 at *
  refine C1.out.mono ?_
  rintro e w1 ⟨rfl, g⟩
  have Hg1 := Lib.hid g
  have Hb1 := Lib.hid (Hb0.out.trans (g.mono Hb0.out.size)); clear g
  cases z
  · have Hf : Hid (r = false) := Lib.hid (by rw [HV.out]; rfl)
    go_wp2_with fail
    go_ret
    exact ⟨by rw [Hf.out]; rfl, Hb1.out⟩
  go_wp2_with fail
  refine (C2.out (by first | rfl | trivial) _ Hg1.out).mono ?_
  rintro e w2 ⟨rfl, g⟩
  have Hg2 := Lib.hid (Hg1.out.trans (g.mono Hg1.out.size))
  have Hb2 := Lib.hid (Hb1.out.trans (g.mono Hb1.out.size)); clear g
  cases y
  · have Hf : Hid (r = false) := Lib.hid (by rw [HV.out]; rfl)
    go_wp2_with fail
    go_ret
    exact ⟨by rw [Hf.out]; rfl, Hb2.out⟩
  have hkk := HK.out (by first | rfl | trivial) (by first | rfl | trivial)
  obtain ⟨n, rfl⟩ : ∃ n : Nat, k = (n : Int) := ⟨k.toNat, by omega⟩
  have Hf : Hid (r = aB (arS ss ps l lg dt) n) := Lib.hid (by rw [HV.out]; simp)
  have C4 := Lib.hid (fun W => l13Bit_any (arS ss ps l lg dt) n hkk.2 (by omega) W)
  clear hkk
  generalize aB (arS ss ps l lg dt) n = y at *
  generalize arS ss ps l lg dt = ar at *
  go_wp2_with fail
  refine (C3.out (by first | rfl | trivial) _ Hg2.out).mono ?_
  rintro e w3 ⟨rfl, g⟩
  have Hb3 := Lib.hid (Hb2.out.trans (g.mono Hb2.out.size)); clear g
  go_wp2_with ((go_at_call 92; refine (C4.out _).mono ?_; rintro e w' ⟨rfl, rfl⟩))
  go_ret
  exact ⟨by rw [Hf.out]; rfl, Hb3.out⟩
end Go.Proofs.Ytlickjmdlooapaa
namespace Go.Proofs.Ytlickjmdlooapaa
open Go.RowKit
set_option linter.unusedVariables false
theorem by_conv {W : World} {g cap : Nat} {s : ByteArray} (hz : s.size = 64) (h : ByA W g s) : (convert 119 9 (.slice (some ⟨g, 0, none⟩) 64 cap)).run Try.prog W = .ok (.string s) W := by
  have hb : Lib.Bytes W g 0 s := fun i hi => by
    rw [Nat.zero_add, h i hi, getD_byte s i hi]
  have := Lib.run_convert_whole (P := Try.prog) W 119 5 9 Try.underlying119 Try.underlying5 Try.underlying9 g 0 s hb cap
  rw [hz] at this
  exact this
set_option maxHeartbeats 4000000 in
set_option maxRecDepth 100000 in
theorem root_any {w : World} {g cap : Nat} {ar : ByteArray} {b l q t : Int} (hz : ar.size = 64) (hg : g < w.heap.size) (hA : ByA w g ar) :
    Calls Try.prog 89 #[.agg #[.int .i64 b, .int .i64 l, .int .i64 q, .int .i64 t, .slice (some ⟨g, 0, none⟩) 64 cap, .slice (some ⟨g, 4, none⟩) 32 32]] w (GivesB (.int .i64 (nV ar 2)) w) := by
  have Hb0 : Hid (Below w.heap.size w (w.alloc (.cells #[.int .i64 b, .int .i64 l, .int .i64 q, .int .i64 t, .slice (some ⟨g, 0, none⟩) 64 cap, .slice (some ⟨g, 4, none⟩) 32 32] 122))) := Lib.hid ((Below.refl _ w).alloc (Nat.le_refl _) _)
  have hcv := by_conv (cap := cap) hz (hA.bel hg Hb0.out)
  have H1 : Hid (FrA ((w.alloc (.cells #[.int .i64 b, .int .i64 l, .int .i64 q, .int .i64 t, .slice (some ⟨g, 0, none⟩) 64 cap, .slice (some ⟨g, 4, none⟩) 32 32] 122)).alloc (.cells #[.string ar] 219)) (w.heap.size + 1) ar) := Lib.hid (by unfold FrA; exact heap_alloc2_new w _ _)
  have HB1 : Hid (Below w.heap.size w ((w.alloc (.cells #[.int .i64 b, .int .i64 l, .int .i64 q, .int .i64 t, .slice (some ⟨g, 0, none⟩) 64 cap, .slice (some ⟨g, 4, none⟩) 32 32] 122)).alloc (.cells #[.string ar] 219))) := Lib.hid (Hb0.out.alloc Hb0.out.size _)
  have C1 := Lib.hid (frNumber_any (m := 2) (by omega) (by omega) (by omega) H1.out)
  generalize nV ar 2 = x at *
  clear hA H1
  go_enter Try.func89, Try.ntmps89
  go_wp2_with fail
  refine C1.out.mono ?_
  rintro e w1 ⟨rfl, -, -, -, g1⟩
  have Hb1 := Lib.hid (HB1.out.trans (g1.mono (by omega))); clear g1
  go_wp2_with fail
  go_ret
  exact ⟨rfl, Hb1.out⟩
set_option maxHeartbeats 4000000 in
set_option maxRecDepth 100000 in
theorem isTaken_any {w : World} {g cap : Nat} {ar : ByteArray} {b l q t k : Int} (hs : supOk b l q t = true) (hk : InI k) (hz : ar.size = 64) (hg : g < w.heap.size) (hA : ByA w g ar) :
    Calls Try.prog 94 #[.agg #[.int .i64 b, .int .i64 l, .int .i64 q, .int .i64 t, .slice (some ⟨g, 0, none⟩) 64 cap, .slice (some ⟨g, 4, none⟩) 32 32], .int .i64 k] w (GivesB (.bool (dtB b l k 1 && aB ar k.toNat)) w) := by
  have hb := sup_b hs
  have Hb0 : Hid (Below w.heap.size w (w.alloc (.cells #[.int .i64 b, .int .i64 l, .int .i64 q, .int .i64 t, .slice (some ⟨g, 0, none⟩) 64 cap, .slice (some ⟨g, 4, none⟩) 32 32] 122))) := Lib.hid ((Below.refl _ w).alloc (Nat.le_refl _) _)
  have R0 : Hid ((w.alloc (.cells #[.int .i64 b, .int .i64 l, .int .i64 q, .int .i64 t, .slice (some ⟨g, 0, none⟩) 64 cap, .slice (some ⟨g, 4, none⟩) 32 32] 122)).heap[w.heap.size]? = some (.cells #[.int .i64 b, .int .i64 l, .int .i64 q, .int .i64 t, .slice (some ⟨g, 0, none⟩) 64 cap, .slice (some ⟨g, 4, none⟩) 32 32] 122 (0, 0))) := Lib.hid (heap_alloc_new w _)
  have Lt0 : Hid (w.heap.size < (w.alloc (.cells #[.int .i64 b, .int .i64 l, .int .i64 q, .int .i64 t, .slice (some ⟨g, 0, none⟩) 64 cap, .slice (some ⟨g, 4, none⟩) 32 32] 122)).heap.size) := Lib.hid (by simp)
  have HA : Hid (∀ W, Below w.heap.size w W → ByA W g ar) := Lib.hid (fun W hW => hA.bel hg hW)
  have Hld := Lib.hid (run_load_cells (P := Try.prog) (w.alloc (.cells #[.int .i64 b, .int .i64 l, .int .i64 q, .int .i64 t, .slice (some ⟨g, 0, none⟩) 64 cap, .slice (some ⟨g, 4, none⟩) 32 32] 122)) w.heap.size 0 39 _ [.int .i64 b, .int .i64 l, .int .i64 q, .int .i64 t] (row_part R0.out (by intro j u hj; rcases j with _ | _ | _ | _ | j; all_goals first | exact hj | simp at hj)) Try.underlying39 rfl)
  have C1 := Lib.hid (fun W => hasRun_any (b := b) (l := l) (q := q) (t := t) k 1 W hs (by unfold InI; omega))
  have HK : Hid (dtB b l k 1 = true → 0 ≤ k ∧ k < 256) := Lib.hid (fun hd => by
    have := (dtB_iff (by omega) (by omega)).1 hd
    omega)
  generalize dtB b l k 1 = y at *
  clear hA hb hk
  go_enter Try.func94, Try.ntmps94
  go_wp2_with (refine wpList_load_agg rfl 39 (.tmp 5) rfl _ rfl _ Hld.out ?_)
  clear Hld
  generalize (w.alloc (.cells #[.int .i64 b, .int .i64 l, .int .i64 q, .int .i64 t, .slice (some ⟨g, 0, none⟩) 64 cap, .slice (some ⟨g, 4, none⟩) 32 32] 122)) = w0 at *
  refine (C1.out _).mono ?_
  rintro e w1 ⟨rfl, g1⟩
  have Hb1 := Lib.hid (Hb0.out.trans (g1.mono Hb0.out.size))
  have R1 := Lib.hid ((g1.block _ Lt0.out).trans R0.out)
  clear g1
  cases y
  · go_wp2_with fail
    go_ret
    exact ⟨by simp, Hb1.out⟩
  have hkk := HK.out (by first | rfl | trivial)
  obtain ⟨n, rfl⟩ : ∃ n : Nat, k = (n : Int) := ⟨k.toNat, by omega⟩
  have Hf : Hid ((true && aB ar (n : Int).toNat) = aB ar n) := Lib.hid (by simp)
  have C2 := Lib.hid (has_any hz (by omega : n < 256) (HA.out _ Hb1.out))
  generalize aB ar n = y at *
  have q5 : w1.cell? ⟨w.heap.size, 5, none⟩ = some (.slice (some ⟨g, 4, none⟩) 32 32) := by rw [cell_of_row _ _ _ _ _ _ R1.out]; rfl
  go_wp2_with ((go_at_call 171; refine C2.out.mono ?_; rintro e w' ⟨rfl, rfl⟩))
  go_ret
  exact ⟨by rw [Hf.out]; rfl, Hb1.out⟩
set_option maxHeartbeats 4000000 in
set_option maxRecDepth 100000 in
theorem implRootOf_any {B : Nat} {w : World} {v0 v1 v10 v11 : Value} {ss : List ByteArray} {ps lg dt : List Pt} {fz b l q t sq at_ : Int} {off : Bool} (h0 : RiT B w v0 ss) (h1 : RiU B w v1 ps) (h10 : RiU B w v10 lg) (h11 : RiU B w v11 dt) (hB : B ≤ w.heap.size) (i4 : InI b) (i5 : InI l) :
    Calls Try.prog 24 #[.agg #[v0, v1, .int .i64 fz, .bool off, .int .i64 b, .int .i64 l, .int .i64 q, .int .i64 t, .int .i64 sq, .int .i64 at_, v10, v11]] w (GivesB (.tuple #[.int .i64 (roV ss ps fz off b l q t sq at_ lg dt), .int .i64 (roC ss ps fz off b l q t sq at_ lg dt)]) w) := by
  have H0 := Lib.hid h0; obtain ⟨A0, c0, rfl, l0, m0, -⟩ := h0
  have H1 := Lib.hid h1; obtain ⟨A1, c1, rfl, l1, m1, -⟩ := h1
  have H10 := Lib.hid h10; obtain ⟨A10, c10, rfl, l10, m10, -⟩ := h10
  have H11 := Lib.hid h11; obtain ⟨A11, c11, rfl, l11, m11, -⟩ := h11
  unfold maxLen at m0 m1 m10 m11
  have Hb0 : Hid (Below w.heap.size w (w.alloc (.cells #[.slice A0 ss.length c0, .slice A1 ps.length c1, .int .i64 fz, .bool off, .int .i64 b, .int .i64 l, .int .i64 q, .int .i64 t, .int .i64 sq, .int .i64 at_, .slice A10 lg.length c10, .slice A11 dt.length c11] 42))) := Lib.hid ((Below.refl _ w).alloc (Nat.le_refl _) _)
  have R0 : Hid ((w.alloc (.cells #[.slice A0 ss.length c0, .slice A1 ps.length c1, .int .i64 fz, .bool off, .int .i64 b, .int .i64 l, .int .i64 q, .int .i64 t, .int .i64 sq, .int .i64 at_, .slice A10 lg.length c10, .slice A11 dt.length c11] 42)).heap[w.heap.size]? = some (.cells #[.slice A0 ss.length c0, .slice A1 ps.length c1, .int .i64 fz, .bool off, .int .i64 b, .int .i64 l, .int .i64 q, .int .i64 t, .int .i64 sq, .int .i64 at_, .slice A10 lg.length c10, .slice A11 dt.length c11] 42 (0, 0))) := Lib.hid (heap_alloc_new w _)
  have Lt0 : Hid (w.heap.size < (w.alloc (.cells #[.slice A0 ss.length c0, .slice A1 ps.length c1, .int .i64 fz, .bool off, .int .i64 b, .int .i64 l, .int .i64 q, .int .i64 t, .int .i64 sq, .int .i64 at_, .slice A10 lg.length c10, .slice A11 dt.length c11] 42)).heap.size) := Lib.hid (by simp)
  have C1 := Lib.hid (implValidPager_any (fz := fz) (off := off) (q := q) (t := t) (sq := sq) (at_ := at_) (H0.out.at hB Hb0.out) (H1.out.at hB Hb0.out) (H10.out.at hB Hb0.out) (H11.out.at hB Hb0.out) (Nat.le_refl _) i4 i5)
  have C2 : Hid (pgrOk ss ps fz off b l q t sq at_ lg dt = true → ∀ W, Below w.heap.size w W → _) := Lib.hid (fun hok W hW => spaceOf_any (w := W) (fz := fz) (off := off) (q := q) (t := t) (sq := sq) (at_ := at_) (H0.out.at hB hW) (H1.out.at hB hW) (H10.out.at hB hW) (H11.out.at hB hW) (Nat.le_refl _) hok)
  have HZ : Hid (pgrOk ss ps fz off b l q t sq at_ lg dt = true → (arS ss ps l lg dt).size = 64 ∧ supOk b l q t = true) := Lib.hid (fun hok => ⟨arS_64 hok, (pgrOk_t hok).1⟩)
  have HV : Hid (roV ss ps fz off b l q t sq at_ lg dt = (if pgrOk ss ps fz off b l q t sq at_ lg dt then nV (arS ss ps l lg dt) 2 else 0) ∧ roC ss ps fz off b l q t sq at_ lg dt = (if pgrOk ss ps fz off b l q t sq at_ lg dt then 0 else 1)) := Lib.hid ⟨rfl, rfl⟩
  generalize roV ss ps fz off b l q t sq at_ lg dt = rv at *
  generalize roC ss ps fz off b l q t sq at_ lg dt = rc at *
  generalize arS ss ps l lg dt = ar at *
  generalize pgrOk ss ps fz off b l q t sq at_ lg dt = z at *
  go_enter Try.func24, Try.ntmps24
  go_wp2_with (refine wpList_load_row rfl 42 (.tmp 1) rfl _ rfl 42 _ (0, 0) _ R0.out Try.underlying42 rfl (by kernel_rfl) ?_)
  generalize (w.alloc (.cells #[.slice A0 ss.length c0, .slice A1 ps.length c1, .int .i64 fz, .bool off, .int .i64 b, .int .i64 l, .int .i64 q, .int .i64 t, .int .i64 sq, .int .i64 at_, .slice A10 lg.length c10, .slice A11 dt.length c11] 42)) = w0 at *
  refine C1.out.mono ?_
  rintro e w1 ⟨rfl, g⟩
  have Hb1 := Lib.hid (Hb0.out.trans (g.mono Hb0.out.size))
  have R1 := Lib.hid ((g.block _ Lt0.out).trans R0.out)
  clear g
  cases z
  · have Hf : Hid (rv = 0 ∧ rc = 1) := Lib.hid HV.out
    go_wp2_with fail
    go_ret2
    exact ⟨by rw [Hf.out.1, Hf.out.2]; rfl, Hb1.out⟩
  have Hf : Hid (rv = nV ar 2 ∧ rc = 0) := Lib.hid HV.out
  have hzz := HZ.out (by first | rfl | trivial)
  go_wp2_with (refine wpList_load_row rfl 42 (.tmp 1) rfl _ rfl 42 _ (0, 0) _ R1.out Try.underlying42 rfl (by kernel_rfl) ?_)
  refine (C2.out (by first | rfl | trivial) _ Hb1.out).mono ?_
  rintro e w2 ⟨g, cap, rfl, hc1, hc2, hg1, hg2, hby, gg⟩
  have Hb2 := Lib.hid (Hb1.out.trans (gg.mono Hb1.out.size)); clear gg
  have C3 := Lib.hid (root_any (cap := cap) (b := b) (l := l) (q := q) (t := t) hzz.1 hg2 hby)
  clear hby hc1 hc2 hg1 hg2 hzz
  generalize nV ar 2 = x at *
  go_wp2_with fail
  refine C3.out.mono ?_
  rintro e w3 ⟨rfl, gg⟩
  have Hb3 := Lib.hid (Hb2.out.trans (gg.mono Hb2.out.size)); clear gg
  go_wp2_with fail
  go_ret2
  exact ⟨by rw [Hf.out.1, Hf.out.2]; rfl, Hb3.out⟩
set_option maxHeartbeats 4000000 in
set_option maxRecDepth 100000 in
theorem implIsAllocated_any {B : Nat} {w : World} {v0 v1 v10 v11 : Value} {ss : List ByteArray} {ps lg dt : List Pt} {fz b l q t sq at_ : Int} {off : Bool} {k : Int} (h0 : RiT B w v0 ss) (h1 : RiU B w v1 ps) (h10 : RiU B w v10 lg) (h11 : RiU B w v11 dt) (hk : (Lit.int .i64 k).wf = true) (hB : B ≤ w.heap.size) (i4 : InI b) (i5 : InI l) :
    Calls Try.prog 27 #[.agg #[v0, v1, .int .i64 fz, .bool off, .int .i64 b, .int .i64 l, .int .i64 q, .int .i64 t, .int .i64 sq, .int .i64 at_, v10, v11], .int .i64 k] w (GivesB (.bool (iaV ss ps fz off b l q t sq at_ lg dt k)) w) := by
  have hk2 := i64_bounds hk
  have H0 := Lib.hid h0; obtain ⟨A0, c0, rfl, l0, m0, -⟩ := h0
  have H1 := Lib.hid h1; obtain ⟨A1, c1, rfl, l1, m1, -⟩ := h1
  have H10 := Lib.hid h10; obtain ⟨A10, c10, rfl, l10, m10, -⟩ := h10
  have H11 := Lib.hid h11; obtain ⟨A11, c11, rfl, l11, m11, -⟩ := h11
  unfold maxLen at m0 m1 m10 m11
  have Hb0 : Hid (Below w.heap.size w (w.alloc (.cells #[.slice A0 ss.length c0, .slice A1 ps.length c1, .int .i64 fz, .bool off, .int .i64 b, .int .i64 l, .int .i64 q, .int .i64 t, .int .i64 sq, .int .i64 at_, .slice A10 lg.length c10, .slice A11 dt.length c11] 42))) := Lib.hid ((Below.refl _ w).alloc (Nat.le_refl _) _)
  have R0 : Hid ((w.alloc (.cells #[.slice A0 ss.length c0, .slice A1 ps.length c1, .int .i64 fz, .bool off, .int .i64 b, .int .i64 l, .int .i64 q, .int .i64 t, .int .i64 sq, .int .i64 at_, .slice A10 lg.length c10, .slice A11 dt.length c11] 42)).heap[w.heap.size]? = some (.cells #[.slice A0 ss.length c0, .slice A1 ps.length c1, .int .i64 fz, .bool off, .int .i64 b, .int .i64 l, .int .i64 q, .int .i64 t, .int .i64 sq, .int .i64 at_, .slice A10 lg.length c10, .slice A11 dt.length c11] 42 (0, 0))) := Lib.hid (heap_alloc_new w _)
  have Lt0 : Hid (w.heap.size < (w.alloc (.cells #[.slice A0 ss.length c0, .slice A1 ps.length c1, .int .i64 fz, .bool off, .int .i64 b, .int .i64 l, .int .i64 q, .int .i64 t, .int .i64 sq, .int .i64 at_, .slice A10 lg.length c10, .slice A11 dt.length c11] 42)).heap.size) := Lib.hid (by simp)
  have C1 := Lib.hid (implValidPager_any (fz := fz) (off := off) (q := q) (t := t) (sq := sq) (at_ := at_) (H0.out.at hB Hb0.out) (H1.out.at hB Hb0.out) (H10.out.at hB Hb0.out) (H11.out.at hB Hb0.out) (Nat.le_refl _) i4 i5)
  have C2 : Hid (pgrOk ss ps fz off b l q t sq at_ lg dt = true → ∀ W, Below w.heap.size w W → _) := Lib.hid (fun hok W hW => spaceOf_any (w := W) (fz := fz) (off := off) (q := q) (t := t) (sq := sq) (at_ := at_) (H0.out.at hB hW) (H1.out.at hB hW) (H10.out.at hB hW) (H11.out.at hB hW) (Nat.le_refl _) hok)
  have HZ : Hid (pgrOk ss ps fz off b l q t sq at_ lg dt = true → (arS ss ps l lg dt).size = 64 ∧ supOk b l q t = true) := Lib.hid (fun hok => ⟨arS_64 hok, (pgrOk_t hok).1⟩)
  have HV : Hid (iaV ss ps fz off b l q t sq at_ lg dt k = (pgrOk ss ps fz off b l q t sq at_ lg dt && (dtB b l k 1 && aB (arS ss ps l lg dt) k.toNat))) := Lib.hid rfl
  generalize iaV ss ps fz off b l q t sq at_ lg dt k = r at *
  generalize arS ss ps l lg dt = ar at *
  generalize pgrOk ss ps fz off b l q t sq at_ lg dt = z at *
  have hkI : InI k := by unfold InI; omega
  clear hk hk2
  go_enter Try.func27, Try.ntmps27
  go_wp2_with (refine wpList_load_row rfl 42 (.tmp 2) rfl _ rfl 42 _ (0, 0) _ R0.out Try.underlying42 rfl (by kernel_rfl) ?_)
  generalize (w.alloc (.cells #[.slice A0 ss.length c0, .slice A1 ps.length c1, .int .i64 fz, .bool off, .int .i64 b, .int .i64 l, .int .i64 q, .int .i64 t, .int .i64 sq, .int .i64 at_, .slice A10 lg.length c10, .slice A11 dt.length c11] 42)) = w0 at *
  refine C1.out.mono ?_
  rintro e w1 ⟨rfl, g⟩
  have Hb1 := Lib.hid (Hb0.out.trans (g.mono Hb0.out.size))
  have R1 := Lib.hid ((g.block _ Lt0.out).trans R0.out)
  clear g
  cases z
  · have Hf : Hid (r = false) := Lib.hid (by rw [HV.out]; rfl)
    go_wp2_with fail
    go_ret
    exact ⟨by rw [Hf.out]; rfl, Hb1.out⟩
  have Hf : Hid (r = (dtB b l k 1 && aB ar k.toNat)) := Lib.hid (by rw [HV.out]; rfl)
  have hzz := HZ.out (by first | rfl | trivial)
  have q0 : w1.cell? ⟨w.heap.size, 0, none⟩ = some (.slice A0 ss.length c0) := by rw [cell_of_row _ _ _ _ _ _ R1.out]; rfl
  have q1 : w1.cell? ⟨w.heap.size, 1, none⟩ = some (.slice A1 ps.length c1) := by rw [cell_of_row _ _ _ _ _ _ R1.out]; rfl
  have q2 : w1.cell? ⟨w.heap.size, 2, none⟩ = some (.int .i64 fz) := by rw [cell_of_row _ _ _ _ _ _ R1.out]; rfl
  have q3 : w1.cell? ⟨w.heap.size, 3, none⟩ = some (.bool off) := by rw [cell_of_row _ _ _ _ _ _ R1.out]; rfl
  have q4 : w1.cell? ⟨w.heap.size, 4, none⟩ = some (.int .i64 b) := by rw [cell_of_row _ _ _ _ _ _ R1.out]; rfl
  have q5 : w1.cell? ⟨w.heap.size, 5, none⟩ = some (.int .i64 l) := by rw [cell_of_row _ _ _ _ _ _ R1.out]; rfl
  have q6 : w1.cell? ⟨w.heap.size, 6, none⟩ = some (.int .i64 q) := by rw [cell_of_row _ _ _ _ _ _ R1.out]; rfl
  have q7 : w1.cell? ⟨w.heap.size, 7, none⟩ = some (.int .i64 t) := by rw [cell_of_row _ _ _ _ _ _ R1.out]; rfl
  have q8 : w1.cell? ⟨w.heap.size, 8, none⟩ = some (.int .i64 sq) := by rw [cell_of_row _ _ _ _ _ _ R1.out]; rfl
  have q9 : w1.cell? ⟨w.heap.size, 9, none⟩ = some (.int .i64 at_) := by rw [cell_of_row _ _ _ _ _ _ R1.out]; rfl
  have q10 : w1.cell? ⟨w.heap.size, 10, none⟩ = some (.slice A10 lg.length c10) := by rw [cell_of_row _ _ _ _ _ _ R1.out]; rfl
  have q11 : w1.cell? ⟨w.heap.size, 11, none⟩ = some (.slice A11 dt.length c11) := by rw [cell_of_row _ _ _ _ _ _ R1.out]; rfl
  go_wp2_with fail
  clear q0 q1 q2 q3 q4 q5 q6 q7 q8 q9 q10 q11
  refine (C2.out (by first | rfl | trivial) _ Hb1.out).mono ?_
  rintro e w2 ⟨g, cap, rfl, hc1, hc2, hg1, hg2, hby, gg⟩
  have Hb2 := Lib.hid (Hb1.out.trans (gg.mono Hb1.out.size)); clear gg
  have C3 := Lib.hid (isTaken_any (cap := cap) (k := k) hzz.2 hkI hzz.1 hg2 hby)
  clear hby hc1 hc2 hg1 hg2 hzz hkI
  generalize (dtB b l k 1 && aB ar k.toNat) = y at *
  go_wp2_with fail
  refine C3.out.mono ?_
  rintro e w3 ⟨rfl, gg⟩
  have Hb3 := Lib.hid (Hb2.out.trans (gg.mono Hb2.out.size)); clear gg
  go_wp2_with fail
  go_ret
  exact ⟨by rw [Hf.out]; rfl, Hb3.out⟩
end Go.Proofs.Ytlickjmdlooapaa
namespace Go.Proofs.Ytlickjmdlooapaa
open Go.RowKit
set_option linter.unusedVariables false
/-- The list, with the run that is open. -/
def rlS (F : Int) (j : Nat) (s : List ER × Nat) : List ER := if s.2 = 0 then s.1 else s.1 ++ [(F + (j : Int) - (s.2 : Int), (s.2 : Int))]
/-- The closed runs of the first j blocks, and how long the open one is. -/
def st (F : Int) (fr : Nat → Bool) : Nat → List ER × Nat
  | 0 => ([], 0)
  | j + 1 => if fr j then ((st F fr j).1, (st F fr j).2 + 1) else (rlS F j (st F fr j), 0)
def rl (F : Int) (fr : Nat → Bool) (j : Nat) : List ER := rlS F j (st F fr j)
theorem st_free {F : Int} {fr : Nat → Bool} {j : Nat} (h : fr j = true) : st F fr (j + 1) = ((st F fr j).1, (st F fr j).2 + 1) := by rw [st, if_pos h]
theorem st_used {F : Int} {fr : Nat → Bool} {j : Nat} (h : fr j = false) : st F fr (j + 1) = (rl F fr j, 0) := by rw [st, h]; rfl
theorem rl_zero (F : Int) (fr : Nat → Bool) : rl F fr 0 = [] := rfl
theorem rl_open {F : Int} {fr : Nat → Bool} {j : Nat} (h : (st F fr j).2 ≠ 0) : rl F fr j = (st F fr j).1 ++ [(F + (j : Int) - ((st F fr j).2 : Int), ((st F fr j).2 : Int))] := by unfold rl rlS; rw [if_neg h]
theorem rl_shut {F : Int} {fr : Nat → Bool} {j : Nat} (h : (st F fr j).2 = 0) : rl F fr j = (st F fr j).1 := by unfold rl rlS; rw [if_pos h]
/-- A free block behind an open run. -/
theorem rl_more {F : Int} {fr : Nat → Bool} {j : Nat} (h : fr j = true) : rl F fr (j + 1) = (st F fr j).1 ++ [(F + (j : Int) - ((st F fr j).2 : Int), ((st F fr j).2 : Int) + 1)] := by
  rw [rl_open (by rw [st_free h]; simp), st_free h]
  simp only
  congr 3
  · push_cast; omega
theorem rl_used {F : Int} {fr : Nat → Bool} {j : Nat} (h : fr j = false) : rl F fr (j + 1) = rl F fr j := by
  rw [rl_shut (by rw [st_used h]), st_used h]
theorem st_le (F : Int) (fr : Nat → Bool) : ∀ j, (st F fr j).2 ≤ j
  | 0 => Nat.le_refl _
  | j + 1 => by
    cases h : fr j
    · rw [st_used h]; exact Nat.zero_le _
    · rw [st_free h]; have := st_le F fr j; simp only; omega
theorem st_run {F : Int} {fr : Nat → Bool} {a : Nat} (h0 : (st F fr a).2 = 0) : ∀ d : Nat, (∀ i, a ≤ i → i < a + d → fr i = true) → st F fr (a + d) = ((st F fr a).1, d)
  | 0, _ => by rw [Nat.add_zero, ← h0]
  | d + 1, h => by
    have h1 := st_run h0 d (fun i h1 h2 => h i h1 (by omega))
    rw [← Nat.add_assoc, st_free (h (a + d) (by omega) (by omega)), h1]
def sumR (L : List ER) : Int := (L.map (·.2)).sum
theorem sumR_app (L : List ER) (x : ER) : sumR (L ++ [x]) = sumR L + x.2 := by simp [sumR]
/-- What is counted, and how long the list is. -/
theorem rl_bd (F : Int) (fr : Nat → Bool) : ∀ j, (∀ p ∈ (st F fr j).1, 1 ≤ p.2) ∧ sumR (st F fr j).1 + ((st F fr j).2 : Int) ≤ j ∧ 0 ≤ sumR (st F fr j).1 ∧ (st F fr j).1.length + (st F fr j).2 ≤ j
  | 0 => ⟨fun p hp => by simp [st] at hp, by simp [st, sumR], by simp [st, sumR], by simp [st]⟩
  | j + 1 => by
    obtain ⟨h1, h2, h3, h4⟩ := rl_bd F fr j
    cases h : fr j
    · rw [st_used h]
      by_cases hz : (st F fr j).2 = 0
      · rw [rl_shut hz]; exact ⟨h1, by (try simp only); omega, h3, by (try simp only); omega⟩
      · rw [rl_open hz]
        refine ⟨fun p hp => ?_, ?_, ?_, ?_⟩
        · rcases List.mem_append.1 hp with hp | hp
          · exact h1 p hp
          · simp at hp; subst hp; simp only; omega
        · simp only [sumR_app]; omega
        · simp only [sumR_app]; omega
        · simp; omega
    · rw [st_free h]
      exact ⟨h1, by (try simp only); omega, h3, by (try simp only); omega⟩
theorem rl_sum (F : Int) (fr : Nat → Bool) (j : Nat) : (∀ p ∈ rl F fr j, 1 ≤ p.2) ∧ sumR (rl F fr j) ≤ j ∧ (rl F fr j).length ≤ j := by
  obtain ⟨h1, h2, h3, h4⟩ := rl_bd F fr j
  by_cases hz : (st F fr j).2 = 0
  · rw [rl_shut hz]; exact ⟨h1, by omega, by omega⟩
  · rw [rl_open hz]
    refine ⟨fun p hp => ?_, by rw [sumR_app]; simp only; omega, by simp; omega⟩
    rcases List.mem_append.1 hp with hp | hp
    · exact h1 p hp
    · simp at hp; subst hp; simp only; omega
theorem sum_take_le {L : List ER} (h : ∀ p ∈ L, 1 ≤ p.2) : ∀ k, 0 ≤ sumR (L.take k) ∧ sumR (L.take k) ≤ sumR L := by
  induction L with
  | nil => intro k; simp [sumR]
  | cons a L ih =>
    intro k
    have ha := h a (by simp)
    have h2 := ih (fun p hp => h p (by simp [hp]))
    have hall := h2 L.length
    rw [List.take_length] at hall
    cases k with
    | zero => simp only [List.take_zero]; simp [sumR] at hall ⊢; omega
    | succ k =>
      have := h2 k
      simp only [List.take_succ_cons]
      simp [sumR] at this ⊢
      omega
theorem sum_take_succ {L : List ER} {k : Nat} (h : k < L.length) : sumR (L.take (k + 1)) = sumR (L.take k) + L[k].2 := by
  rw [← List.take_append_getElem h, sumR_app]
end Go.Proofs.Ytlickjmdlooapaa
namespace Go.Proofs.Ytlickjmdlooapaa
open Go.RowKit
set_option linter.unusedVariables false
theorem OR.opened {W : World} {lo : Nat} {v : Value} {ss : List ER} (h : OR W lo v ss) : ∃ A cap, v = .slice A ss.length cap := by
  rcases h.sl with ⟨rfl, rfl⟩ | ⟨x, cap, rfl, _⟩ <;> exact ⟨_, _, rfl⟩
theorem flatR_set1 : ∀ (ps : List ER) (j : Nat) (x : Int) (h : j < ps.length), flatR (ps.set j (ps[j].1, x)) = (flatR ps).set (j * 2 + 1) (.int .i64 x)
  | p :: ps, 0, x, _ => rfl
  | p :: ps, j + 1, x, h => by
    have e1 : (j + 1) * 2 + 1 = j * 2 + 1 + 2 := by omega
    rw [e1]
    simp only [List.set_cons_succ, flatR, List.getElem_cons_succ]
    rw [flatR_set1 ps j x (Nat.lt_of_succ_lt_succ h)]
theorem OR.set1 {w : World} {lo g cap n : Nat} {ps : List ER} (h : OR w lo (.slice (some ⟨g, 0, none⟩) n cap) ps) (j : Nat) (x : Int) (hj : j < ps.length) : OR (w.setCell ⟨g, j * 2 + 1, none⟩ (.int .i64 x)) lo (.slice (some ⟨g, 0, none⟩) n cap) (ps.set j (ps[j].1, x)) := by
  unfold OR
  rw [flatR_set1 ps j x hj, List.length_set]
  exact own_set h (by rw [flatR_len]; omega)
theorem infoRz : (Try.prog.info? 132).map (fun i => (i.zero, i.size, i.bytes)) = some (some (.agg #[.int .i64 0, .int .i64 0]), 2, 16) := by kernel_rfl
theorem info_partsR {i : Option TypeInfo} {z : Option Value} {s b : Nat} (h : i.map (fun i => (i.zero, i.size, i.bytes)) = some (z, s, b)) : ∃ i0, i = some i0 ∧ i0.zero = z ∧ i0.size = s ∧ i0.bytes = b := by
  cases i with
  | none => cases h
  | some i0 =>
    have h2 := Option.some.inj h
    simp only [Prod.mk.injEq] at h2
    exact ⟨i0, rfl, h2.1, h2.2.1, h2.2.2⟩
/-- append of one run that was just laid into a block of its own. -/
theorem wpList_pushR {ops : Array Oper} {rest : List Oper} {o : Oper} {a : Act} {Q : Exit → Act → World → Prop} {W : World} {lo B : Nat} {v : Value} {ps : List ER} {k : Int} {x : Int} (hgd : o.guard = none) (s y : Operand)
    (ho : o.op = .call { callee := .builtin .append, args := #[s, y], argTypes := #[49, 49] }) (hs : a.eval s = v) (hx : a.eval y = .slice (some ⟨B, 0, none⟩) 1 1) (hB : W.heap.size = B)
    (hown : OR W lo v ps) (hlo : lo ≤ W.heap.size) (hlen : ps.length ≤ 1048576)
    (h : ∀ g cap w', OR w' lo (.slice (some ⟨g, 0, none⟩) (ps ++ [(k, x)]).length cap) (ps ++ [(k, x)]) → (W.alloc (.cells #[.int .i64 k, .int .i64 x] 132)).grownBy w' v.ownBlock → g < w'.heap.size →
      wpList Try.prog ops Q rest (a.put o.dst (.slice (some ⟨g, 0, none⟩) (ps ++ [(k, x)]).length cap)) w') : wpList Try.prog ops Q (o :: rest) a (W.alloc (.cells #[.int .i64 k, .int .i64 x] 132)) := by
  obtain ⟨i0, hi, hz0, hz1, hz2⟩ := info_partsR infoRz
  subst hB
  have el : (ps ++ [(k, x)]).length = ps.length + 1 := by simp
  refine wpList_append_lies _ hgd s y 49 ho lo 132 i0 (.agg #[.int .i64 0, .int .i64 0]) 2 16 Try.underlying49 hi hz0 hz1 hz2 rfl (by decide) v ps.length (flatR ps) hs (own_bel hown ((Below.refl _ W).alloc (Nat.le_refl _) _))
    ⟨W.heap.size, 0, none⟩ 1 1 [.int .i64 k, .int .i64 x] hx rfl (fun j u hu => ?_) (fun u hu => ?_) (by decide) (by unfold maxLen; omega) (by omega) (by simp; omega) (W.heap.size + 1) (by simp) (fun g cap w' h1 h2 h3 h4 => ?_)
  · rcases j with _ | _ | j
    · obtain rfl := Option.some.inj hu
      rw [add_at, cell_of_row _ _ _ _ _ _ (heap_alloc_new W _)]; rfl
    · obtain rfl := Option.some.inj hu
      rw [add_at, cell_of_row _ _ _ _ _ _ (heap_alloc_new W _)]; rfl
    · simp at hu
  · simp only [List.mem_cons, List.not_mem_nil, or_false] at hu
    rcases hu with rfl | rfl <;> rfl
  · have := h g cap w' (by unfold OR; rw [el, flatR_append]; exact h1) h2 h4
    rw [el] at this; exact this
theorem pushR_bel {W W2 z : World} {lo B : Nat} {o : Obj} {v : Value} {xs : List ER} (hz : Below B z W) (h1 : OR W lo v xs) (hB : B ≤ lo) (hlo : B ≤ W.heap.size) (hgr : (W.alloc o).grownBy W2 v.ownBlock) : Below B z W2 :=
  (hz.alloc hlo o).grown hgr (by simp; omega) (fun k hk => Nat.le_trans hB (own_wi h1 k hk).1)
def AnsR (D : List ER) (w : World) (e : Ending) (w' : World) : Prop := ∃ v : Value, e = .returned v ∧ OR w' w.heap.size v D ∧ Below w.heap.size w w'
/-- Which blocks are free, and the runs. -/
def frB (ar : ByteArray) (l : Int) (j : Nat) : Bool := !aB ar ((3 + l).toNat + j)
def frL (ar : ByteArray) (l b : Int) : List ER := rl (3 + l) (frB ar l) (b - (3 + l)).toNat
def FrI (F : Int) (fr : Nat → Bool) (mx : Nat) (w : World) (vl ov kv : Value) (wr : World) : Prop := ∃ j : Nat, j ≤ mx ∧ kv = .int .i64 (F + (j : Int)) ∧ ov = .bool (decide ((st F fr j).2 ≠ 0)) ∧ OR wr w.heap.size vl (rl F fr j) ∧ Below w.heap.size w wr
set_option maxHeartbeats 4000000 in
set_option maxRecDepth 100000 in
theorem l13Runs_any {B g : Nat} {w : World} {v0 v1 v10 v11 : Value} {ss : List ByteArray} {ps lg dt : List Pt} {fz b l q t sq at_ : Int} {off : Bool} (hg : w.heap[g]? = some (.cells #[v0, v1, .int .i64 fz, .bool off, .int .i64 b, .int .i64 l, .int .i64 q, .int .i64 t, .int .i64 sq, .int .i64 at_, v10, v11] 42 (0, 0))) (h0 : RiT B w v0 ss) (h1 : RiU B w v1 ps) (h10 : RiU B w v10 lg) (h11 : RiU B w v11 dt) (hB : B ≤ w.heap.size) (hok : pgrOk ss ps fz off b l q t sq at_ lg dt = true) :
    Calls Try.prog 96 #[.pointer (some ⟨g, 0, none⟩)] w (AnsR (frL (arS ss ps l lg dt) l b) w) := by
  have hgl : g < w.heap.size := by
    rcases Nat.lt_or_ge g w.heap.size with hl | hl
    · exact hl
    · rw [Array.getElem?_eq_none hl] at hg; cases hg
  have hb := pgrOk_b hok
  have hz := arS_64 hok
  have CA := Lib.hid (l13Area_any hg h0 h1 h10 h11 hB hok)
  have CF : Hid (∀ W, Below w.heap.size w W → Calls Try.prog 169 #[.pointer (some ⟨g, 0, none⟩)] W (GivesB (.int .i64 (2 + l + 1)) W)) := Lib.hid (fun W hW => l13First_any ((hW.block _ hgl).trans hg) (pgrOk_t hok).1)
  have HS : Hid (∀ W, Below w.heap.size w W → W.cell? ⟨g, 4, none⟩ = some (.int .i64 b)) := Lib.hid (fun W hW => by rw [cell_of_row _ _ _ _ _ _ ((hW.block _ hgl).trans hg)]; rfl)
  have HD : Hid (frL (arS ss ps l lg dt) l b = rl (3 + l) (frB (arS ss ps l lg dt) l) (b - (3 + l)).toNat) := Lib.hid rfl
  have e3 : (2 + l + 1 : Int) = 3 + l := by omega
  rw [e3] at CF
  generalize frL (arS ss ps l lg dt) l b = D at *
  have CB : Hid (∀ (j : Nat) (W : World), (3 + l).toNat + j < 256 → Calls Try.prog 92 #[.string (arS ss ps l lg dt), .int .i64 (3 + l + (j : Int))] W (Quiet (.bool (!frB (arS ss ps l lg dt) l j)) W)) := Lib.hid (fun j W hj => by
    have := l13Bit_any (arS ss ps l lg dt) ((3 + l).toNat + j) hz hj W
    rw [show (((3 + l).toNat + j : Nat) : Int) = 3 + l + (j : Int) by omega] at this
    rw [show (!frB (arS ss ps l lg dt) l j) = aB (arS ss ps l lg dt) ((3 + l).toNat + j) by simp [frB]]
    exact this)
  clear hz hok hg h0 h1 h10 h11
  obtain ⟨mx, hmx⟩ : ∃ mx : Nat, b = 3 + l + (mx : Int) := ⟨(b - (3 + l)).toNat, by omega⟩
  rw [show (b - (3 + l)).toNat = mx by omega] at HD
  generalize frB (arS ss ps l lg dt) l = fr at *
  generalize arS ss ps l lg dt = ar at *
  have hbb : 11 ≤ 3 + l ∧ 3 + l + (mx : Int) ≤ 256 := by omega
  rw [hmx] at HS
  clear hb hmx
  generalize hF : 3 + l = F at *
  clear hF
  go_enter Try.func96, Try.ntmps96
  go_wp2_with fail
  refine CA.out.mono ?_
  rintro e w1 ⟨rfl, g1⟩
  have Hg1 := Lib.hid g1; clear g1
  go_wp2_with fail
  have Hb2 : Hid (Below w.heap.size w (w1.alloc (.cells #[] 132))) := Lib.hid (Hg1.out.alloc Hg1.out.size _)
  have Ho2 : Hid (OR (w1.alloc (.cells #[] 132)) w.heap.size (.slice (some ⟨w1.heap.size, 0, none⟩) 0 0) []) := Lib.hid (World.ownsRow_made w1 #[] 0 Hg1.out.size (by decide) (by simp))
  generalize (w1.alloc (.cells #[] 132)) = w2 at *
  refine (CF.out _ Hb2.out).mono ?_
  rintro e w3 ⟨rfl, g3⟩
  have Ho3 := Lib.hid (own_bel Ho2.out g3)
  have Hb3 := Lib.hid (Hb2.out.trans (g3.mono Hb2.out.size)); clear g3
  go_wp2_with fail
  go_loopw [4, 5, 6] (fun vl ov kv wr => FrI F fr mx w vl ov kv wr) (fun _ _ kv _ => 257 - (intOf kv).toNat)
  case atStart => exact ⟨0, Nat.zero_le _, by go_num, rfl, Ho3.out, Hb3.out⟩
  case round =>
    obtain ⟨j, hj, rfl, rfl, hown, hbel⟩ := hrel
    have Hown := Lib.hid hown; have Hbel := Lib.hid hbel
    obtain ⟨VA, vc, rfl⟩ := OR.opened hown
    clear hown
    have hws : w.heap.size ≤ wr.heap.size := hbel.size
    have HoN : Hid (∀ n, OR (wr.drewN n) w.heap.size (.slice VA (rl F fr j).length vc) (rl F fr j)) := Lib.hid (fun n => own_bel Hown.out (below_draws (Below.refl _ _) n))
    have HbN : Hid (∀ n, Below w.heap.size w (wr.drewN n)) := Lib.hid (fun n => below_draws Hbel.out n)
    have hc := HS.out wr Hbel.out
    clear hbel
    by_cases hlt : j < mx
    · have dk : decide (F + (j : Int) < F + (mx : Int)) = true := decide_eq_true (by omega)
      have CBj := Lib.hid (fun W => CB.out j W (by omega))
      clear CB
      cases hf : fr j
      · have Hn : Hid (OR wr w.heap.size (.slice VA (rl F fr j).length vc) (rl F fr (j + 1)) ∧ (st F fr (j + 1)).2 = 0) := Lib.hid ⟨by rw [rl_used hf]; exact Hown.out, by rw [st_used hf]⟩
        rw [hf] at CBj
        generalize hL : rl F fr j = L at *
        generalize hO : decide ((st F fr j).2 ≠ 0) = oo at *
        clear hL hO HoN HbN
        have HL1 : Hid (j + 1 ≤ mx) := Lib.hid hlt
        go_wp2_with ((go_at_call 92; go_fit (CBj.out _); rintro e w' ⟨rfl, rfl⟩))
        go_roundw
        case rel => exact ⟨j + 1, HL1.out, by go_num, by rw [Hn.out.2]; rfl, Hn.out.1, Hbel.out⟩
        case measure => simp [intOf]; omega
      · rw [hf] at CBj
        by_cases hz : (st F fr j).2 = 0
        · have hO : decide ((st F fr j).2 ≠ 0) = false := by simp [hz]
          rw [hO]
          have Hn : Hid (rl F fr j ++ [(F + (j : Int), 1)] = rl F fr (j + 1) ∧ decide ((st F fr (j + 1)).2 ≠ 0) = true) := Lib.hid ⟨by rw [rl_more hf, rl_shut hz, hz]; simp, by rw [st_free hf]; simp⟩
          have hLl := (rl_sum F fr j).2.2
          generalize rl F fr j = L at *
          clear hO hz HoN HbN
          have HL1 : Hid (j + 1 ≤ mx) := Lib.hid hlt
          go_wp2_with (first | (go_at_call 92; go_fit (CBj.out _); rintro e w' ⟨rfl, rfl⟩) | (at_builtin; refine wpList_pushR (W := wr) (v := .slice VA L.length vc) (lo := w.heap.size) (ps := L) (k := F + (j : Int)) (x := 1) rfl (.tmp 47) (.tmp 50) rfl rfl rfl rfl (Hown.out) hws (by omega) ?_; intro g4 cap4 w4 ow4 gr4 lt4; have Ho4 := Lib.hid ow4; have Hb4 := Lib.hid (pushR_bel Hbel.out Hown.out (Nat.le_refl _) hws gr4); clear ow4 gr4))
          go_roundw
          case rel => exact ⟨j + 1, HL1.out, by go_num, by rw [Hn.out.2], by have h4 := Ho4.out; rw [List.length_append, Hn.out.1] at h4; exact h4, Hb4.out⟩
          case measure => simp [intOf]; omega
        · have hO : decide ((st F fr j).2 ≠ 0) = true := by simp [hz]
          rw [hO]
          have Hn : Hid (decide ((st F fr (j + 1)).2 ≠ 0) = true) := Lib.hid (by rw [st_free hf]; simp)
          have hro := rl_open hz
          have hrm := rl_more (F := F) hf
          have hle := st_le F fr j
          obtain ⟨q, hq⟩ : ∃ q, q = (st F fr j).1.length := ⟨_, rfl⟩
          have hql : (rl F fr j).length = q + 1 := by rw [hro, hq]; simp
          have hLl := (rl_sum F fr j).2.2
          have hown := Hown.out
          rcases hown.sl with ⟨_, h0⟩ | ⟨g0, cap0, he, hlo, hg0, hn0, hm0⟩
          · rw [h0] at hql; simp at hql
          rw [he] at hown ⊢
          clear he Hown HoN HbN
          rw [hql] at hown ⊢ hn0
          have hu := (hown.cell q (by omega)).2
          rw [show (rl F fr j)[q].2 = ((st F fr j).2 : Int) by simp [hro, hq]] at hu
          have hfz := own_frozen hown (q * 2 + 1)
          have Ho4 : Hid (OR (wr.setCell ⟨g0, q * 2 + 1, none⟩ (.int .i64 (((st F fr j).2 : Int) + 1))) w.heap.size (.slice (some ⟨g0, 0, none⟩) (rl F fr (j + 1)).length cap0) (rl F fr (j + 1))) := Lib.hid (by
            have h3 := hown.set1 q (((st F fr j).2 : Int) + 1) (by omega)
            have e4 : (rl F fr j).set q ((rl F fr j)[q].1, ((st F fr j).2 : Int) + 1) = rl F fr (j + 1) := by rw [hrm]; simp [hro, hq]
            rw [e4] at h3
            rw [show (rl F fr (j + 1)).length = q + 1 by rw [hrm, hq]; simp]
            exact h3)
          have Hlq : Hid ((rl F fr (j + 1)).length = q + 1) := Lib.hid (by rw [hrm, hq]; simp)
          have Hb4 : Hid (Below w.heap.size w (wr.setCell ⟨g0, q * 2 + 1, none⟩ (.int .i64 (((st F fr j).2 : Int) + 1)))) := Lib.hid (Hbel.out.setCell hlo _)
          have HL1 : Hid (j + 1 ≤ mx) := Lib.hid hlt
          rw [Hlq.out] at Ho4
          have hqb : q ≤ 256 := by omega
          have hnb : (st F fr j).2 ≤ 256 := by omega
          clear hown hro hrm hO hz hq hql
          generalize (st F fr j).2 = n at *
          go_wp2_with (first | (go_at_call 92; go_fit (CBj.out _); rintro e w' ⟨rfl, rfl⟩))
          go_roundw
          case rel => exact ⟨j + 1, HL1.out, by go_num, by rw [Hn.out], Ho4.out, Hb4.out⟩
          case measure => simp [intOf]; omega
    · obtain rfl : j = mx := by omega
      have dk : decide (F + (j : Int) < F + (j : Int)) = false := decide_eq_false (by omega)
      have Ho : Hid (OR wr w.heap.size (.slice VA (rl F fr j).length vc) D) := Lib.hid (by rw [HD.out]; exact Hown.out)
      go_wp2_with fail
      go_ret
      exact ⟨_, rfl, Ho.out, Hbel.out⟩
set_option maxHeartbeats 4000000 in
set_option maxRecDepth 100000 in
theorem l13Count_any {B : Nat} {w : World} {v : Value} {L : List ER} (h : RiR B w v L) (hB : B ≤ w.heap.size) (hp : ∀ p ∈ L, 1 ≤ p.2) (hs : sumR L ≤ 256) :
    Calls Try.prog 95 #[v] w (GivesB (.int .i64 (sumR L)) w) := by
  obtain ⟨A, c, rfl, hl, hm, hx⟩ := h
  have Hx := Lib.hid hx; clear hx
  unfold maxLen at hm
  have HT := Lib.hid (fun k => sum_take_le hp k)
  clear hp
  go_enter Try.func95, Try.ntmps95
  go_wp2_with fail
  go_loopw [3, 4] (fun nv iv wr => ∃ k : Nat, k ≤ L.length ∧ iv = .int .i64 (k : Int) ∧ nv = .int .i64 (sumR (L.take k)) ∧ Below w.heap.size w wr) (fun _ iv _ => L.length - (intOf iv).toNat)
  case atStart => exact ⟨0, Nat.zero_le _, rfl, by simp [sumR], Below.refl _ _⟩
  case round =>
    obtain ⟨k, hk, rfl, rfl, hbel⟩ := hrel
    have Hbel := Lib.hid hbel
    by_cases hlt : k < L.length
    · obtain ⟨b1, o1, rfl, hb1, -, q1, hr⟩ := Hx.out k hlt
      have c1 := (hbel.cell (p := ⟨b1, o1 + k * 2 + 1, none⟩) (show b1 < _ by omega)).trans q1
      have Hn := Lib.hid (sum_take_succ hlt)
      have h5 := HT.out k
      have h6 := HT.out (k + 1)
      rw [Hn.out] at h6
      have HL1 : Hid (k + 1 ≤ L.length) := Lib.hid hlt
      have HL2 : Hid (k < L.length) := Lib.hid hlt
      clear hbel q1
      generalize sumR (L.take k) = a at *
      generalize L[k].2 = x at *
      go_wp2_with fail
      go_roundw
      case rel => exact ⟨k + 1, HL1.out, by go_num, by rw [Hn.out], Hbel.out⟩
      case measure => simp [intOf]; have := HL2.out; omega
    · obtain rfl : k = L.length := by omega
      rw [List.take_length]
      go_wp2_with fail
      go_ret
      exact ⟨rfl, Hbel.out⟩
/-- The free runs, and how many blocks they hold. -/
def frR (ss : List ByteArray) (ps : List Pt) (fz : Int) (off : Bool) (b l q t sq at_ : Int) (lg dt : List Pt) : List ER := if pgrOk ss ps fz off b l q t sq at_ lg dt then frL (arS ss ps l lg dt) l b else []
def frN (ss : List ByteArray) (ps : List Pt) (fz : Int) (off : Bool) (b l q t sq at_ : Int) (lg dt : List Pt) : Int := sumR (frR ss ps fz off b l q t sq at_ lg dt)
theorem frL_bd {ar : ByteArray} {l b : Int} (h : 0 ≤ l) (hb : b ≤ 256) : (∀ p ∈ frL ar l b, 1 ≤ p.2) ∧ sumR (frL ar l b) ≤ 256 ∧ (frL ar l b).length ≤ 256 := by
  have h1 := rl_sum (3 + l) (frB ar l) (b - (3 + l)).toNat
  unfold frL
  exact ⟨h1.1, by have := h1.2.1; omega, by have := h1.2.2; omega⟩
set_option maxHeartbeats 4000000 in
set_option maxRecDepth 100000 in
theorem specFreeRuns_any {B : Nat} {w : World} {v0 v1 v10 v11 : Value} {ss : List ByteArray} {ps lg dt : List Pt} {fz b l q t sq at_ : Int} {off : Bool}  (h0 : RiT B w v0 ss) (h1 : RiU B w v1 ps) (h10 : RiU B w v10 lg) (h11 : RiU B w v11 dt) (hB : B ≤ w.heap.size) (i4 : InI b) (i5 : InI l) :
    Calls Try.prog 30 #[.agg #[v0, v1, .int .i64 fz, .bool off, .int .i64 b, .int .i64 l, .int .i64 q, .int .i64 t, .int .i64 sq, .int .i64 at_, v10, v11]] w (AnsR (frR ss ps fz off b l q t sq at_ lg dt) w) := by
  have Hb0 : Hid (Below w.heap.size w (w.alloc (.cells #[v0, v1, .int .i64 fz, .bool off, .int .i64 b, .int .i64 l, .int .i64 q, .int .i64 t, .int .i64 sq, .int .i64 at_, v10, v11] 42))) := Lib.hid ((Below.refl _ w).alloc (Nat.le_refl _) _)
  have R0 : Hid ((w.alloc (.cells #[v0, v1, .int .i64 fz, .bool off, .int .i64 b, .int .i64 l, .int .i64 q, .int .i64 t, .int .i64 sq, .int .i64 at_, v10, v11] 42)).heap[w.heap.size]? = some (.cells #[v0, v1, .int .i64 fz, .bool off, .int .i64 b, .int .i64 l, .int .i64 q, .int .i64 t, .int .i64 sq, .int .i64 at_, v10, v11] 42 (0, 0))) := Lib.hid (heap_alloc_new w _)
  have Lt0 : Hid (w.heap.size < (w.alloc (.cells #[v0, v1, .int .i64 fz, .bool off, .int .i64 b, .int .i64 l, .int .i64 q, .int .i64 t, .int .i64 sq, .int .i64 at_, v10, v11] 42)).heap.size) := Lib.hid (by simp)
  have C1 := Lib.hid (l12Ok_any R0.out (h0.at hB Hb0.out) (h1.at hB Hb0.out) (h10.at hB Hb0.out) (h11.at hB Hb0.out) (Nat.le_refl _) i4 i5)
  have C2 : Hid (pgrOk ss ps fz off b l q t sq at_ lg dt = true → ∀ W, Below (w.alloc (.cells #[v0, v1, .int .i64 fz, .bool off, .int .i64 b, .int .i64 l, .int .i64 q, .int .i64 t, .int .i64 sq, .int .i64 at_, v10, v11] 42)).heap.size (w.alloc (.cells #[v0, v1, .int .i64 fz, .bool off, .int .i64 b, .int .i64 l, .int .i64 q, .int .i64 t, .int .i64 sq, .int .i64 at_, v10, v11] 42)) W → _) := Lib.hid (fun hok W hW => l13Runs_any (w := W) ((hW.block _ Lt0.out).trans R0.out) (h0.at hB (Hb0.out.trans (hW.mono Hb0.out.size))) (h1.at hB (Hb0.out.trans (hW.mono Hb0.out.size))) (h10.at hB (Hb0.out.trans (hW.mono Hb0.out.size))) (h11.at hB (Hb0.out.trans (hW.mono Hb0.out.size))) (Nat.le_refl _) hok)
  have HV : Hid (frR ss ps fz off b l q t sq at_ lg dt = (if pgrOk ss ps fz off b l q t sq at_ lg dt then frL (arS ss ps l lg dt) l b else [])) := Lib.hid rfl
  have HE : Hid (∀ (w1 : World), Below w.heap.size w w1 → OR (w1.alloc (.cells #[] 132)) w.heap.size (.slice (some ⟨w1.heap.size, 0, none⟩) 0 0) [] ∧ Below w.heap.size w (w1.alloc (.cells #[] 132))) := Lib.hid (fun w1 g => ⟨World.ownsRow_made w1 #[] 0 g.size (by decide) (by simp), g.alloc g.size _⟩)
  generalize frR ss ps fz off b l q t sq at_ lg dt = D at *
  generalize frL (arS ss ps l lg dt) l b = x at *
  generalize pgrOk ss ps fz off b l q t sq at_ lg dt = z at *
  clear h0 h1 h10 h11
  go_enter Try.func30, Try.ntmps30
  go_wp2_with fail
  generalize (w.alloc (.cells #[v0, v1, .int .i64 fz, .bool off, .int .i64 b, .int .i64 l, .int .i64 q, .int .i64 t, .int .i64 sq, .int .i64 at_, v10, v11] 42)) = w0 at *
  refine C1.out.mono ?_
  rintro e w1 ⟨rfl, g⟩
  have Hg1 := Lib.hid g
  have Hb1 := Lib.hid (Hb0.out.trans (g.mono Hb0.out.size)); clear g
  cases z
  · have Hf : Hid (D = []) := Lib.hid HV.out
    have He := Lib.hid (HE.out w1 Hb1.out)
    go_wp2_with fail
    go_ret
    exact ⟨_, rfl, by rw [Hf.out]; exact He.out.1, He.out.2⟩
  have Hf : Hid (D = x) := Lib.hid HV.out
  go_wp2_with fail
  refine (C2.out (by first | rfl | trivial) _ Hg1.out).mono ?_
  rintro e w2 ⟨v, rfl, ho, g⟩
  have Ho := Lib.hid (own_lo ho Hb1.out.size)
  have Hb2 := Lib.hid (Hb1.out.trans (g.mono Hb1.out.size)); clear g ho
  go_wp2_with fail
  go_ret
  exact ⟨_, rfl, by rw [Hf.out]; exact Ho.out, Hb2.out⟩
/-- The numbers in the list are of their type. -/
theorem st_wf (F : Int) (fr : Nat → Bool) (hF : 0 ≤ F) : ∀ j : Nat, F + (j : Int) ≤ 256 → (∀ p ∈ (st F fr j).1, InI p.1 ∧ InI p.2) ∧ ∀ p ∈ rl F fr j, InI p.1 ∧ InI p.2
  | 0, _ => ⟨fun p hp => by simp [st] at hp, fun p hp => by simp [rl_zero] at hp⟩
  | j + 1, h => by
    have h1 := st_wf F fr hF j (by omega)
    have h2 : ∀ p ∈ (st F fr (j + 1)).1, InI p.1 ∧ InI p.2 := by
      cases hf : fr j
      · rw [st_used hf]; exact h1.2
      · rw [st_free hf]; exact h1.1
    refine ⟨h2, fun p hp => ?_⟩
    by_cases hz : (st F fr (j + 1)).2 = 0
    · rw [rl_shut hz] at hp; exact h2 p hp
    · rw [rl_open hz] at hp
      have hle := st_le F fr (j + 1)
      rcases List.mem_append.1 hp with hp | hp
      · exact h2 p hp
      · simp at hp; subst hp; unfold InI; constructor <;> simp only <;> omega
theorem frL_wf {ar : ByteArray} {l b : Int} (h : 0 ≤ l) (hb : b ≤ 256) : ∀ p ∈ frL ar l b, InI p.1 ∧ InI p.2 := by
  unfold frL
  by_cases hq : 3 + l ≤ b
  · exact (st_wf (3 + l) (frB ar l) (by omega) (b - (3 + l)).toNat (by omega)).2
  · rw [show (b - (3 + l)).toNat = 0 by omega]
    intro p hp
    simp [rl_zero] at hp
set_option maxHeartbeats 4000000 in
set_option maxRecDepth 100000 in
theorem specFreeCount_any {B : Nat} {w : World} {v0 v1 v10 v11 : Value} {ss : List ByteArray} {ps lg dt : List Pt} {fz b l q t sq at_ : Int} {off : Bool}  (h0 : RiT B w v0 ss) (h1 : RiU B w v1 ps) (h10 : RiU B w v10 lg) (h11 : RiU B w v11 dt) (hB : B ≤ w.heap.size) (i4 : InI b) (i5 : InI l) :
    Calls Try.prog 28 #[.agg #[v0, v1, .int .i64 fz, .bool off, .int .i64 b, .int .i64 l, .int .i64 q, .int .i64 t, .int .i64 sq, .int .i64 at_, v10, v11]] w (GivesB (.int .i64 (frN ss ps fz off b l q t sq at_ lg dt)) w) := by
  have Hb0 : Hid (Below w.heap.size w (w.alloc (.cells #[v0, v1, .int .i64 fz, .bool off, .int .i64 b, .int .i64 l, .int .i64 q, .int .i64 t, .int .i64 sq, .int .i64 at_, v10, v11] 42))) := Lib.hid ((Below.refl _ w).alloc (Nat.le_refl _) _)
  have R0 : Hid ((w.alloc (.cells #[v0, v1, .int .i64 fz, .bool off, .int .i64 b, .int .i64 l, .int .i64 q, .int .i64 t, .int .i64 sq, .int .i64 at_, v10, v11] 42)).heap[w.heap.size]? = some (.cells #[v0, v1, .int .i64 fz, .bool off, .int .i64 b, .int .i64 l, .int .i64 q, .int .i64 t, .int .i64 sq, .int .i64 at_, v10, v11] 42 (0, 0))) := Lib.hid (heap_alloc_new w _)
  have Lt0 : Hid (w.heap.size < (w.alloc (.cells #[v0, v1, .int .i64 fz, .bool off, .int .i64 b, .int .i64 l, .int .i64 q, .int .i64 t, .int .i64 sq, .int .i64 at_, v10, v11] 42)).heap.size) := Lib.hid (by simp)
  have C1 := Lib.hid (l12Ok_any R0.out (h0.at hB Hb0.out) (h1.at hB Hb0.out) (h10.at hB Hb0.out) (h11.at hB Hb0.out) (Nat.le_refl _) i4 i5)
  have C2 : Hid (pgrOk ss ps fz off b l q t sq at_ lg dt = true → ∀ W, Below (w.alloc (.cells #[v0, v1, .int .i64 fz, .bool off, .int .i64 b, .int .i64 l, .int .i64 q, .int .i64 t, .int .i64 sq, .int .i64 at_, v10, v11] 42)).heap.size (w.alloc (.cells #[v0, v1, .int .i64 fz, .bool off, .int .i64 b, .int .i64 l, .int .i64 q, .int .i64 t, .int .i64 sq, .int .i64 at_, v10, v11] 42)) W → _) := Lib.hid (fun hok W hW => l13Runs_any (w := W) ((hW.block _ Lt0.out).trans R0.out) (h0.at hB (Hb0.out.trans (hW.mono Hb0.out.size))) (h1.at hB (Hb0.out.trans (hW.mono Hb0.out.size))) (h10.at hB (Hb0.out.trans (hW.mono Hb0.out.size))) (h11.at hB (Hb0.out.trans (hW.mono Hb0.out.size))) (Nat.le_refl _) hok)
  have HV : Hid (frN ss ps fz off b l q t sq at_ lg dt = (if pgrOk ss ps fz off b l q t sq at_ lg dt then sumR (frL (arS ss ps l lg dt) l b) else 0)) := Lib.hid (by unfold frN frR; split <;> rfl)
  have HK : Hid (pgrOk ss ps fz off b l q t sq at_ lg dt = true → (∀ p ∈ frL (arS ss ps l lg dt) l b, 1 ≤ p.2) ∧ sumR (frL (arS ss ps l lg dt) l b) ≤ 256 ∧ ∀ p ∈ frL (arS ss ps l lg dt) l b, InI p.1 ∧ InI p.2) := Lib.hid (fun hok => by
    have hb := pgrOk_b hok
    have h2 := frL_bd (ar := (arS ss ps l lg dt)) (l := l) (b := b) (by omega) (by omega)
    exact ⟨h2.1, h2.2.1, frL_wf (by omega) (by omega)⟩)
  generalize frN ss ps fz off b l q t sq at_ lg dt = D at *
  generalize frL (arS ss ps l lg dt) l b = x at *
  generalize pgrOk ss ps fz off b l q t sq at_ lg dt = z at *
  clear h0 h1 h10 h11
  go_enter Try.func28, Try.ntmps28
  go_wp2_with fail
  generalize (w.alloc (.cells #[v0, v1, .int .i64 fz, .bool off, .int .i64 b, .int .i64 l, .int .i64 q, .int .i64 t, .int .i64 sq, .int .i64 at_, v10, v11] 42)) = w0 at *
  refine C1.out.mono ?_
  rintro e w1 ⟨rfl, g⟩
  have Hg1 := Lib.hid g
  have Hb1 := Lib.hid (Hb0.out.trans (g.mono Hb0.out.size)); clear g
  cases z
  · have Hf : Hid (D = 0) := Lib.hid HV.out
    go_wp2_with fail
    go_ret
    exact ⟨by rw [Hf.out]; try rfl, Hb1.out⟩
  have Hf : Hid (D = sumR x) := Lib.hid HV.out
  have Hk := Lib.hid (HK.out (by first | rfl | trivial))
  go_wp2_with fail
  refine (C2.out (by first | rfl | trivial) _ Hg1.out).mono ?_
  rintro e w2 ⟨v, rfl, ho, g⟩
  have Ho := Lib.hid (OR.ri ho Hk.out.2.2)
  have Hb2 := Lib.hid (Hb1.out.trans (g.mono Hb1.out.size)); clear g ho
  go_wp2_with fail
  refine (l13Count_any Ho.out (Nat.le_refl _) Hk.out.1 Hk.out.2.1).mono ?_
  rintro e w3 ⟨rfl, g⟩
  have Hb3 := Lib.hid (Hb2.out.trans (g.mono Hb2.out.size)); clear g
  go_wp2_with fail
  go_ret
  exact ⟨by rw [Hf.out]; try rfl, Hb3.out⟩
end Go.Proofs.Ytlickjmdlooapaa
namespace Go.Proofs.Ytlickjmdlooapaa
open Go.RowKit Go.Shelf
attribute [local go_sem] Oper.semAt_some
set_option linter.unusedVariables false
set_option maxHeartbeats 4000000 in
set_option maxRecDepth 100000 in
theorem isFree_any {w : World} {g cap : Nat} {ar : ByteArray} {b l q t k : Int} (hs : supOk b l q t = true) (hk : InI k) (hz : ar.size = 64) (hg : g < w.heap.size) (hA : ByA w g ar) :
    Calls Try.prog 175 #[.agg #[.int .i64 b, .int .i64 l, .int .i64 q, .int .i64 t, .slice (some ⟨g, 0, none⟩) 64 cap, .slice (some ⟨g, 4, none⟩) 32 32], .int .i64 k] w (GivesB (.bool (dtB b l k 1 && !aB ar k.toNat)) w) := by
  have hb := sup_b hs
  have Hb0 : Hid (Below w.heap.size w (w.alloc (.cells #[.int .i64 b, .int .i64 l, .int .i64 q, .int .i64 t, .slice (some ⟨g, 0, none⟩) 64 cap, .slice (some ⟨g, 4, none⟩) 32 32] 122))) := Lib.hid ((Below.refl _ w).alloc (Nat.le_refl _) _)
  have R0 : Hid ((w.alloc (.cells #[.int .i64 b, .int .i64 l, .int .i64 q, .int .i64 t, .slice (some ⟨g, 0, none⟩) 64 cap, .slice (some ⟨g, 4, none⟩) 32 32] 122)).heap[w.heap.size]? = some (.cells #[.int .i64 b, .int .i64 l, .int .i64 q, .int .i64 t, .slice (some ⟨g, 0, none⟩) 64 cap, .slice (some ⟨g, 4, none⟩) 32 32] 122 (0, 0))) := Lib.hid (heap_alloc_new w _)
  have Lt0 : Hid (w.heap.size < (w.alloc (.cells #[.int .i64 b, .int .i64 l, .int .i64 q, .int .i64 t, .slice (some ⟨g, 0, none⟩) 64 cap, .slice (some ⟨g, 4, none⟩) 32 32] 122)).heap.size) := Lib.hid (by simp)
  have HA : Hid (∀ W, Below w.heap.size w W → ByA W g ar) := Lib.hid (fun W hW => hA.bel hg hW)
  have Hld := Lib.hid (run_load_cells (P := Try.prog) (w.alloc (.cells #[.int .i64 b, .int .i64 l, .int .i64 q, .int .i64 t, .slice (some ⟨g, 0, none⟩) 64 cap, .slice (some ⟨g, 4, none⟩) 32 32] 122)) w.heap.size 0 39 _ [.int .i64 b, .int .i64 l, .int .i64 q, .int .i64 t] (row_part R0.out (by intro j u hj; rcases j with _ | _ | _ | _ | j; all_goals first | exact hj | simp at hj)) Try.underlying39 rfl)
  have C1 := Lib.hid (fun W => hasRun_any (b := b) (l := l) (q := q) (t := t) k 1 W hs (by unfold InI; omega))
  have HK : Hid (dtB b l k 1 = true → 0 ≤ k ∧ k < 256) := Lib.hid (fun hd => by
    have := (dtB_iff (by omega) (by omega)).1 hd
    omega)
  generalize dtB b l k 1 = y at *
  clear hA hb hk
  go_enter Try.func175, Try.ntmps175
  go_wp2_with (refine wpList_load_agg rfl 39 (.tmp 5) rfl _ rfl _ Hld.out ?_)
  clear Hld
  generalize (w.alloc (.cells #[.int .i64 b, .int .i64 l, .int .i64 q, .int .i64 t, .slice (some ⟨g, 0, none⟩) 64 cap, .slice (some ⟨g, 4, none⟩) 32 32] 122)) = w0 at *
  refine (C1.out _).mono ?_
  rintro e w1 ⟨rfl, g1⟩
  have Hb1 := Lib.hid (Hb0.out.trans (g1.mono Hb0.out.size))
  have R1 := Lib.hid ((g1.block _ Lt0.out).trans R0.out)
  clear g1
  cases y
  · go_wp2_with fail
    go_ret
    exact ⟨by simp, Hb1.out⟩
  have hkk := HK.out (by first | rfl | trivial)
  obtain ⟨n, rfl⟩ : ∃ n : Nat, k = (n : Int) := ⟨k.toNat, by omega⟩
  have Hf : Hid ((true && !aB ar (n : Int).toNat) = !aB ar n) := Lib.hid (by simp)
  have C2 := Lib.hid (has_any hz (by omega : n < 256) (HA.out _ Hb1.out))
  generalize aB ar n = y at *
  have q5 : w1.cell? ⟨w.heap.size, 5, none⟩ = some (.slice (some ⟨g, 4, none⟩) 32 32) := by rw [cell_of_row _ _ _ _ _ _ R1.out]; rfl
  go_wp2_with ((go_at_call 171; refine C2.out.mono ?_; rintro e w' ⟨rfl, rfl⟩))
  go_ret
  exact ⟨by rw [Hf.out]; rfl, Hb1.out⟩
theorem rl_run {F : Int} {fr : Nat → Bool} {a d : Nat} (h0 : (st F fr a).2 = 0) (hd : d ≠ 0) (h : ∀ i, a ≤ i → i < a + d → fr i = true) : rl F fr (a + d) = rl F fr a ++ [(F + (a : Int), F + ((a : Int) + (d : Int)) - (F + (a : Int)))] := by
  have h1 := st_run h0 d h
  rw [rl_open (by rw [h1]; exact hd), h1, rl_shut h0]
  simp only
  congr 3 <;> omega
theorem rl_min {F : Int} {fr : Nat → Bool} {a mx : Nat} (ha : a ≤ mx) (h : a < mx → fr a = false) : rl F fr (min (a + 1) mx) = rl F fr a := by
  rcases Nat.lt_or_ge a mx with h1 | h1
  · rw [show min (a + 1) mx = a + 1 by omega, rl_used (h h1)]
  · rw [show min (a + 1) mx = a by omega]
def FrK (J : List ER → World → Prop) (F : Int) (fr : Nat → Bool) (mx a Bs g : Nat) (W : World) (ev : Value) (wr : World) : Prop := ∃ d : Nat, a + d ≤ mx ∧ ev = .int .i64 (F + ((a + d : Nat) : Int)) ∧ (∀ i, a ≤ i → i < a + d → fr i = true) ∧ J (rl F fr a) wr ∧ KpS g Bs W wr ∧ W.heap.size ≤ wr.heap.size
def FrJ (J : List ER → World → Prop) (F : Int) (fr : Nat → Bool) (mx Bs g : Nat) (W : World) (av : Value) (wr : World) : Prop := ∃ a : Nat, a ≤ mx + 1 ∧ av = .int .i64 (F + (a : Int)) ∧ (a ≤ mx → (st F fr a).2 = 0) ∧ J (rl F fr (min a mx)) wr ∧ KpS g Bs W wr ∧ W.heap.size ≤ wr.heap.size
set_option maxHeartbeats 4000000 in
set_option maxRecDepth 100000 in
theorem frS_in (n : Nat) (hn : 1 ≤ n) (y Bs g cap : Nat) {ar : ByteArray} {b l q t : Int} (hs : supOk b l q t = true) (hz : ar.size = 64) (hbl : l + 4 ≤ b) (J Jx : List ER → World → Prop)
    (hY : ∀ pre x W, J pre W → pre.length < 257 → YieldAt Fence.wide (n - 1) Try.prog y #[.agg #[.int .i64 x.1, .int .i64 x.2]] W fun e W' => (e = .returned (.bool true) ∧ J (pre ++ [x]) W' ∧ KpS g Bs W W' ∧ W.heap.size ≤ W'.heap.size) ∨ (e = .returned (.bool false) ∧ Jx (pre ++ [x]) W'))
    (W : World) (hBs : W.heap[Bs]? = some (.cells #[.int .i64 b, .int .i64 l, .int .i64 q, .int .i64 t, .slice (some ⟨g, 0, none⟩) 64 cap, .slice (some ⟨g, 4, none⟩) 32 32] 122 (0, 0))) (hg : g < W.heap.size) (hA : ByA W g ar) (hJ : ∀ pre X Y, J pre X → W.heap.size ≤ X.heap.size → Below X.heap.size X Y → J pre Y) (h0 : J [] W) :
    CallsIn Fence.wide n Try.prog 173 #[.func (.yield y) #[] #[], .pointer (some ⟨Bs, 0, none⟩)] W fun e W' => (∃ v, e = .returned v) ∧ ((∃ ys, ys = frL ar l b ∧ J ys W') ∨ (∃ pre, Jx pre W')) := by
  have hsb := sup_b hs
  have hBl : Bs < W.heap.size := (Array.getElem?_eq_some_iff.1 hBs).1
  have Hda : Hid (daOf b l q t = 3 + l) := Lib.hid (by unfold daOf; rw [if_pos hs])
  have HDF : Hid (∀ X : World, Calls Try.prog 174 #[.agg #[.int .i64 b, .int .i64 l, .int .i64 q, .int .i64 t]] X (GivesB (.int .i64 (3 + l)) X)) := Lib.hid (fun X => by rw [← Hda.out]; exact implDataFirst_any b l q t X hsb.1 hsb.2.1)
  have HR : Hid (∀ X : World, KpS g Bs W X → X.heap[Bs]? = some (.cells #[.int .i64 b, .int .i64 l, .int .i64 q, .int .i64 t, .slice (some ⟨g, 0, none⟩) 64 cap, .slice (some ⟨g, 4, none⟩) 32 32] 122 (0, 0)) ∧ ByA X g ar) := Lib.hid (fun X hX => ⟨hX.2.trans hBs, fun j hj => (cell_same hX.1 j).trans (hA j hj)⟩)
  have HIF : Hid (∀ (X : World) (k : Nat), KpS g Bs W X → W.heap.size ≤ X.heap.size → (3 + l + (k : Int)) ≤ 256 → Calls Try.prog 175 #[.agg #[.int .i64 b, .int .i64 l, .int .i64 q, .int .i64 t, .slice (some ⟨g, 0, none⟩) 64 cap, .slice (some ⟨g, 4, none⟩) 32 32], .int .i64 (3 + l + (k : Int))] X (GivesB (.bool (decide (3 + l + (k : Int) < b) && frB ar l k)) X)) := Lib.hid (fun X k hX hXs hk => by
    have h1 := isFree_any (cap := cap) (k := 3 + l + (k : Int)) hs (by unfold InI; omega) hz (by omega : g < X.heap.size) (HR.out X hX).2
    have h2 : (dtB b l (3 + l + (k : Int)) 1 && !aB ar (3 + l + (k : Int)).toNat) = (decide (3 + l + (k : Int) < b) && frB ar l k) := by
      rw [dtB_eq (by omega) (by omega), frB, show (3 + l + (k : Int)).toNat = (3 + l).toNat + k by omega]
      congr 1
      simp only [decide_eq_true (show (1 : Int) ≤ 1 by omega), Bool.true_and, decide_eq_true (show 3 + l ≤ 3 + l + (k : Int) by omega)]
      exact decide_eq_decide.2 (by omega)
    rw [h2] at h1
    exact h1)
  have HD : Hid (frL ar l b = rl (3 + l) (frB ar l) (b - (3 + l)).toNat) := Lib.hid rfl
  obtain ⟨mx, hmx⟩ : ∃ mx : Nat, b = 3 + l + (mx : Int) := ⟨(b - (3 + l)).toNat, by omega⟩
  rw [show (b - (3 + l)).toNat = mx by omega] at HD
  have HJ := Lib.hid hJ
  have HC : Hid (∀ X : World, KpS g Bs W X → X.cell? ⟨Bs, 0, none⟩ = some (.int .i64 b) ∧ X.cell? ⟨Bs, 1, none⟩ = some (.int .i64 l) ∧ X.cell? ⟨Bs, 2, none⟩ = some (.int .i64 q) ∧ X.cell? ⟨Bs, 3, none⟩ = some (.int .i64 t) ∧ X.cell? ⟨Bs, 4, none⟩ = some (.slice (some ⟨g, 0, none⟩) 64 cap) ∧ X.cell? ⟨Bs, 5, none⟩ = some (.slice (some ⟨g, 4, none⟩) 32 32)) := Lib.hid (fun X hX => by
    have := (HR.out X hX).1
    refine ⟨?_, ?_, ?_, ?_, ?_, ?_⟩ <;> (rw [cell_of_row _ _ _ _ _ _ this]; rfl))
  have hbb : 11 ≤ 3 + l ∧ 3 + l + (mx : Int) ≤ 256 := by omega
  generalize frL ar l b = D at *
  generalize frB ar l = fr at *
  have HbN : Hid (∀ X Y : World, W.heap.size ≤ X.heap.size → Below X.heap.size X Y → KpS g Bs X Y) := Lib.hid (fun X Y h1 h2 => ⟨h2.block g (by omega), h2.block Bs (by omega)⟩)
  clear hs hz hbl hsb hA hBs hJ HR
  subst hmx
  refine callsIn_of_wp Try.func173 rfl trivial ?_ rfl
  simp only [Try.ntmps173, List.size_toArray, List.length_cons, List.length_nil, Nat.reduceAdd, Nat.reduceSub, Array.replicate_succ, Array.replicate_zero, List.push_toArray, List.append_toArray, List.nil_append, List.cons_append]
  obtain ⟨c0, c1, c2, c3, c4, c5⟩ := HC.out W (kpS_refl _ _ _)
  gi_wp2_with fail
  refine ⟨trivial, ?_⟩
  refine (callsIn_wide.2 (HDF.out _)).mono ?_
  rintro e w1 ⟨rfl, g1⟩
  have Hk1 := Lib.hid (HbN.out _ _ (Nat.le_refl _) g1)
  have Hz1 : Hid (W.heap.size ≤ w1.heap.size) := Lib.hid g1.size
  have HJ1 : Hid (J [] w1) := Lib.hid (HJ.out _ _ _ h0 (Nat.le_refl _) g1)
  clear g1 c0 c1 c2 c3 c4 c5
  gi_wp2
  gi_loopw [3, 4] (fun av _ wr => FrJ J (3 + l) fr mx Bs g W av wr) (fun av _ _ => 300 - (intOf av).toNat)
  case atStart => exact ⟨0, by omega, by go_num, fun _ => rfl, by simpa [rl_zero] using HJ1.out, Hk1.out, Hz1.out⟩
  case round =>
    obtain ⟨a, ha, rfl, hst, hJs, hks, hzs⟩ := hrel
    have HK := Lib.hid hks; have HZ := Lib.hid hzs; have HJs := Lib.hid hJs; have Hst := Lib.hid hst
    clear hks hJs hst
    obtain ⟨c0, c1, c2, c3, c4, c5⟩ := HC.out wr HK.out
    by_cases hlt : a < mx
    · have dk : decide (3 + l + (a : Int) < 3 + l + (mx : Int)) = true := decide_eq_true (by omega)
      have Ha : Hid (min a mx = a) := Lib.hid (by omega)
      have HJa : Hid (J (rl (3 + l) fr a) wr) := Lib.hid (by rw [← Ha.out]; exact HJs.out)
      have Hs0 := Lib.hid (Hst.out (by omega))
      have Hlen : Hid ((rl (3 + l) fr a).length < 257) := Lib.hid (by have := (rl_sum (3 + l) fr a).2.2; omega)
      clear HJs Hst
      gi_wp2
      gi_loopw [4] (fun ev wr => FrK J (3 + l) fr mx a Bs g W ev wr) (fun ev _ => 300 - (intOf ev).toNat)
      case atStart => exact ⟨0, by omega, rfl, fun i h1 h2 => absurd h2 (by omega), HJa.out, HK.out, HZ.out⟩
      case round =>
        obtain ⟨d, hd, rfl, hf, hJs, hks, hzs⟩ := hrel
        have HK := Lib.hid hks; have HZ := Lib.hid hzs; have HJs := Lib.hid hJs; have Hf := Lib.hid hf
        clear hks hJs hf HJa c0 c1 c2 c3 c4 c5
        obtain ⟨c0, c1, c2, c3, c4, c5⟩ := HC.out _ HK.out
        gi_wp2_with fail
        refine ⟨trivial, ?_⟩
        refine (callsIn_wide.2 (HIF.out _ (a + d) HK.out HZ.out (by omega))).mono ?_
        rintro e w2 ⟨rfl, g2⟩
        have HK2 := Lib.hid (kpS_t HK.out (HbN.out _ _ HZ.out g2))
        have HZ2 := Lib.hid (Nat.le_trans HZ.out g2.size)
        have HJ2 := Lib.hid (HJ.out _ _ _ HJs.out HZ.out g2)
        clear g2 c0 c1 c2 c3 c4 c5
        by_cases hq : a + d < mx ∧ fr (a + d) = true
        · rw [show (decide (3 + l + ((a + d : Nat) : Int) < 3 + l + (mx : Int)) && fr (a + d)) = true by rw [hq.2, decide_eq_true (by omega)]; rfl]
          have Hf2 : Hid (∀ i, a ≤ i → i < a + (d + 1) → fr i = true) := Lib.hid (fun i h1 h2 => by
            rcases Nat.lt_or_ge i (a + d) with h3 | h3
            · exact Hf.out i h1 h3
            · rw [show i = a + d by omega]; exact hq.2)
          have Hd1 : Hid (a + (d + 1) ≤ mx) := Lib.hid (by omega)
          clear hq
          gi_wp2
          go_roundw
          case rel => exact ⟨d + 1, Hd1.out, by go_num, Hf2.out, HJ2.out, HK2.out, HZ2.out⟩
          case measure => simp [intOf]; omega
        · rw [show (decide (3 + l + ((a + d : Nat) : Int) < 3 + l + (mx : Int)) && fr (a + d)) = false by
            rcases Nat.lt_or_ge (a + d) mx with h1 | h1
            · have : fr (a + d) = false := by
                cases h : fr (a + d)
                · rfl
                · exact absurd ⟨h1, h⟩ hq
              rw [this]; simp
            · rw [decide_eq_false (by omega)]; rfl]
          have Hq : Hid (a + d < mx → fr (a + d) = false) := Lib.hid (fun h1 => by
            cases h : fr (a + d)
            · rfl
            · exact absurd ⟨h1, h⟩ hq)
          clear hq
          by_cases hz0 : d = 0
          · subst hz0
            have dg : decide (3 + l + (a : Int) < 3 + l + ((a + 0 : Nat) : Int)) = false := decide_eq_false (by omega)
            have Hn : Hid (J (rl (3 + l) fr (min (a + 0 + 1) mx)) w2) := Lib.hid (by rw [rl_min hd Hq.out]; exact HJ2.out)
            have Hs1 : Hid (a + 0 + 1 ≤ mx → (st (3 + l) fr (a + 0 + 1)).2 = 0) := Lib.hid (fun h => by rw [st_used (Hq.out (by omega))])
            have Hd1 : Hid (a + 0 + 1 ≤ mx + 1) := Lib.hid (by omega)
            gi_wp2
            refine ⟨fun f hf => (by cases hf), ?_⟩
            gi_wp2
            go_roundw
            case rel => exact ⟨a + 0 + 1, Hd1.out, by go_num, Hs1.out, Hn.out, HK2.out, HZ2.out⟩
            case measure => simp [intOf]; omega
          · have dg : decide (3 + l + (a : Int) < 3 + l + ((a + d : Nat) : Int)) = true := decide_eq_true (by omega)
            have Hx := Lib.hid (rl_run Hs0.out hz0 Hf.out)
            have Hs1 : Hid (a + d + 1 ≤ mx → (st (3 + l) fr (a + d + 1)).2 = 0) := Lib.hid (fun h => by rw [st_used (Hq.out (by omega))])
            have Hd1 : Hid (a + d + 1 ≤ mx + 1) := Lib.hid (by omega)
            have Hmn := Lib.hid (rl_min (F := 3 + l) hd Hq.out)
            obtain ⟨fn, tmps, assign, body, hy, hR⟩ := hY _ (3 + l + (a : Int), 3 + l + ((a : Int) + (d : Int)) - (3 + l + (a : Int))) w2 HJ2.out Hlen.out
            dsimp only at hy
            gi_wp2
            refine hR.mono ?_
            rintro e W3 (⟨rfl, hJ3, hk3, hz3⟩ | ⟨rfl, hJx3⟩)
            · have HJ3 : Hid (J (rl (3 + l) fr (min (a + d + 1) mx)) W3) := Lib.hid (by rw [Hmn.out, Hx.out]; exact hJ3)
              have HK3 := Lib.hid (kpS_t HK2.out hk3)
              have HZ3 := Lib.hid (Nat.le_trans HZ2.out hz3)
              clear hJ3 hk3
              gi_wp2
              go_roundw
              case rel => exact ⟨a + d + 1, Hd1.out, by go_num, Hs1.out, HJ3.out, HK3.out, HZ3.out⟩
              case measure => simp [intOf]; omega
            · gi_wp2
              refine bodyPost_ret (results_none rfl _ _ _) rfl ?_
              exact ⟨⟨_, rfl⟩, .inr ⟨_, hJx3⟩⟩
    · have dk : decide (3 + l + (a : Int) < 3 + l + (mx : Int)) = false := decide_eq_false (by omega)
      have Hm : Hid (min a mx = mx) := Lib.hid (by omega)
      have He : Hid (J D wr) := Lib.hid (by rw [HD.out, ← Hm.out]; exact HJs.out)
      gi_wp2
      go_end0
      exact ⟨⟨_, rfl⟩, .inl ⟨_, rfl, He.out⟩⟩
def KpR (g Bs : Nat) (W W' : World) : Prop := KpS g Bs W W' ∧ W.heap.size ≤ W'.heap.size
theorem kpR_t {b Bs : Nat} {A B C : World} (h : KpR b Bs A B) (k : KpR b Bs B C) : KpR b Bs A C := ⟨kpS_t h.1 k.1, Nat.le_trans h.2 k.2⟩
theorem kpR_b {b Bs : Nat} {w : World} (hb : b < w.heap.size) (hB : Bs < w.heap.size) (W : World) (l : Nat) (o o' : Obj) (hl : w.heap.size ≤ l) (h : W.heap[l]? = some o) (h1 : o.isCells = false) (h2 : o.isWalk = false) : KpR b Bs W (W.putObj l o') :=
  ⟨kpS_b hb hB W l o o' hl h h1 h2, by simp⟩
def enR (x : ER) : Array Value := #[.agg #[.int .i64 x.1, .int .i64 x.2]]
theorem frS_stops (n : Nat) (hn : 1 ≤ n) (Bs g cap : Nat) {ar : ByteArray} {b l q t : Int} (hs : supOk b l q t = true) (hz : ar.size = 64) (hbl : l + 4 ≤ b) (w : World) (hBs : w.heap[Bs]? = some (.cells #[.int .i64 b, .int .i64 l, .int .i64 q, .int .i64 t, .slice (some ⟨g, 0, none⟩) 64 cap, .slice (some ⟨g, 4, none⟩) 32 32] 122 (0, 0))) (hg : g < w.heap.size) (hA : ByA w g ar) :
    SeqStopsK Fence.wide n Try.prog 173 #[.pointer (some ⟨Bs, 0, none⟩)] enR (KpR g Bs) (fun ys => ys = frL ar l b) (fun _ => True) 257 w := fun y J Jx W hW hJ _ hY h0 => by
  have hBl : Bs < w.heap.size := (Array.getElem?_eq_some_iff.1 hBs).1
  have hz2 := hW.size
  refine (frS_in n hn y Bs g cap hs hz hbl J Jx (fun pre x W1 h1 h2 => ?_) W ((hW.block Bs hBl).trans hBs) (by omega) (hA.bel hg hW) (fun pre X Y h1 h2 h3 => hJ pre X Y none h1 ⟨h3.os, h3.tape, h3.output, h3.size, fun k hk _ => h3.block k hk⟩ (fun r e => by cases e)) h0).mono ?_
  · refine (hY pre x W1 h1 h2).mono ?_
    rintro e W' (⟨rfl, hj, hk⟩ | ⟨rfl, hj⟩)
    · exact .inl ⟨rfl, hj, hk.1, hk.2⟩
    · exact .inr ⟨rfl, hj⟩
  · rintro e W' ⟨he, ⟨ys, rfl, hj⟩ | ⟨pre, hj⟩⟩
    · exact ⟨he, .inl ⟨_, rfl, hj⟩⟩
    · exact ⟨he, .inr ⟨pre, trivial, hj⟩⟩
/-- append of one run that lies in a block of its own, in a round. -/
theorem wpListIn_pushR {F : Fence} {n : Nat} {ops : Array Oper} {rest : List Oper} {o : Oper} {a : Act} {Q : Exit → Act → World → Prop} {W : World} {lo B : Nat} {v : Value} {ps : List ER} {k : Int} {x : Int} (hgd : o.guard = none) (s y : Operand)
    (ho : o.op = .call { callee := .builtin .append, args := #[s, y], argTypes := #[49, 49] }) (hs : a.eval s = v) (hx : a.eval y = .slice (some ⟨B, 0, none⟩) 1 1) (hB : W.heap.size = B)
    (hown : OR W lo v ps) (hlo : lo ≤ W.heap.size) (hlen : ps.length ≤ 1048576)
    (h : ∀ g cap w', OR w' lo (.slice (some ⟨g, 0, none⟩) (ps ++ [(k, x)]).length cap) (ps ++ [(k, x)]) → (W.alloc (.cells #[.int .i64 k, .int .i64 x] 132)).grownBy w' v.ownBlock →
      wpListIn F n Try.prog ops Q rest (a.put o.dst (.slice (some ⟨g, 0, none⟩) (ps ++ [(k, x)]).length cap)) w') : wpListIn F n Try.prog ops Q (o :: rest) a (W.alloc (.cells #[.int .i64 k, .int .i64 x] 132)) := by
  obtain ⟨i0, hi, hz0, hz1, hz2⟩ := info_partsR infoRz
  subst hB
  have el : (ps ++ [(k, x)]).length = ps.length + 1 := by simp
  refine wpListIn_append_own _ hgd s y 49 ho lo 132 i0 (.agg #[.int .i64 0, .int .i64 0]) 2 16 Try.underlying49 hi hz0 hz1 hz2 rfl (by decide) v ps.length (flatR ps) hs (own_bel hown ((Below.refl _ W).alloc (Nat.le_refl _) _))
    ⟨W.heap.size, 0, none⟩ 1 1 [.int .i64 k, .int .i64 x] hx rfl (fun j u hu => ?_) (fun u hu => ?_) (by unfold maxLen; omega) (by omega) (by simp; omega) (fun v' w' h1 h2 _ => ?_)
  · rcases j with _ | _ | j
    · obtain rfl := Option.some.inj hu
      rw [add_at, cell_of_row _ _ _ _ _ _ (heap_alloc_new W _)]; rfl
    · obtain rfl := Option.some.inj hu
      rw [add_at, cell_of_row _ _ _ _ _ _ (heap_alloc_new W _)]; rfl
    · simp at hu
  · simp only [List.mem_cons, List.not_mem_nil, or_false] at hu
    rcases hu with rfl | rfl <;> rfl
  · obtain ⟨g, cap, rfl⟩ := ownsRow_succ h1
    have := h g cap w' (by unfold OR; rw [el, flatR_append]; exact h1) h2
    rw [el] at this; exact this
def ApI (w : World) (pre : List ER) (W : World) : Prop := (∃ v, Boxed W w.heap.size 49 v ∧ W.ownsRow w.heap.size 132 2 v pre.length (flatR pre) ∧ True) ∧ Below w.heap.size w W
theorem apI_own (w : World) (K : Nat) (hK : w.heap.size ≤ K) : OwnFrom K (fun (pre : List ER) W => ApI w pre W) :=
  OwnFrom.and (Own.from (holdsRow_own w.heap.size w.heap.size 49 132 2 (fun s : List ER => s.length) (fun s => flatR s) (fun _ _ => True)) _) (ownFrom_below (Nat.le_refl _) hK)
set_option maxRecDepth 100000 in
set_option maxHeartbeats 4000000 in
theorem appSeq_in (n : Nat) (hn : 3 ≤ n) {gf : Nat} {lb : Array Value} (hent : ∀ args w, (callFunc gf args).run Try.prog w = .ok (.enter gf args) w) {w : World} {g Bs : Nat} (hgB : g < w.heap.size ∧ Bs < w.heap.size) {D : List ER}
    (hseq : SeqStopsK Fence.wide (n - 1) Try.prog gf lb enR (KpR g Bs) (fun ys => ys = D) (fun _ => True) 257 (w.alloc (.cells #[.slice none 0 0] 49))) :
    CallsIn Fence.wide n Try.prog 172 #[.slice none 0 0, .func (.func gf) #[] lb] w (AnsR D w) := by
  have hn1 : 1 ≤ n := by omega
  have HW0 : Hid (ApI w [] (w.alloc (.cells #[.slice none 0 0] 49))) := Lib.hid ⟨⟨_, Boxed.new w _ _, ⟨by simp [flatR], .inl ⟨rfl, rfl⟩⟩, trivial⟩, (Below.refl _ w).alloc (Nat.le_refl _) _⟩
  have Hz : Hid ((w.alloc (.cells #[.slice none 0 0] 49)).heap.size = w.heap.size + 1) := Lib.hid (by simp)
  refine callsIn_of_wp_marks Try.func172 rfl trivial ?_ rfl
  simp only [Try.ntmps172, List.size_toArray, List.length_cons, List.length_nil, Nat.reduceAdd, Nat.reduceSub, Array.replicate_succ, Array.replicate_zero, List.push_toArray, List.append_toArray, List.nil_append, List.cons_append]
  gi_wp2
  generalize (w.alloc (.cells #[.slice none 0 0] 49)) = w1 at *
  refine wpIn_rangeFunc_ownH rfl hn1 (gf := gf) (lb := lb) rfl trivial hent hseq kpR_t (kpR_b (by rw [Hz.out]; omega) (by rw [Hz.out]; omega)) (Below.refl _ _) (fun _ => rfl)
    (fun pre W => ApI w pre W) (fun _ _ _ => False)
    (apI_own w _ (by rw [Hz.out]; omega)) (fun _ _ _ _ _ hs _ _ => hs.elim) HW0.out
    (fun x a' W => ∃ Bx, w.heap.size + 1 ≤ Bx ∧ W.heap[Bx]? = some (.cells #[.int .i64 x.1, .int .i64 x.2] 132 (0, 0)) ∧ a' = { tmps := #[.slice none 0 0, .func (.func gf) #[] lb, .pointer (some ⟨w.heap.size, 0, none⟩), undef, .slice none 0 0, .pointer (some ⟨Bx, 0, none⟩), .func (.func gf) #[] lb, .agg #[.int .i64 x.1, .int .i64 x.2], undef, undef, undef, undef, undef], defers := [] })
    (fun x a' _ X Y row hs hg hr => by obtain ⟨Bx, e1, e2, e3⟩ := hs; exact ⟨Bx, e1, row_own Bx 132 (fun (_ : Unit) => #[Value.int .i64 x.1, .int .i64 x.2]) () X Y row e2 hg (fun r e => (hr r e).2), e3⟩)
    ?assign ?body ?done ?stop
  case assign =>
    rintro l pre x W K hi hK
    have hlt := hi.2.size
    have hlt2 := hi.1.choose_spec.1.lt
    unfold enR
    gi_wp2
    exact hK _ _ ((KeepsOthers.alloc _ _).from _) ⟨⟨heap_alloc_old _ _ (by omega), heap_alloc_old _ _ (by omega)⟩, by simp⟩ ((apI_own w w.heap.size (Nat.le_refl _)).alloc _ hi) ⟨W.heap.size, by omega, heap_alloc_new _ _, rfl⟩
  case body =>
    rintro l pre x a' W hl ⟨r, hr⟩ hi ⟨Bx, hBx, bX, rfl⟩ hlt
    obtain ⟨⟨v, hb, hrow, -⟩, hbel⟩ := hi
    obtain ⟨VA, vc, rfl⟩ := OR.opened hrow
    have Hrow := Lib.hid hrow; have Hb := Lib.hid hb; have Hbel := Lib.hid hbel
    have hws := hbel.size
    have b0 := hb.cell
    have x0 : W.cell? ⟨Bx, 0, none⟩ = some (.int .i64 x.1) := by rw [cell_of_row _ _ _ _ _ _ bX]; rfl
    have x1 : W.cell? ⟨Bx, 1, none⟩ = some (.int .i64 x.2) := by rw [cell_of_row _ _ _ _ _ _ bX]; rfl
    have e5 := Lib.hid (show (pre ++ [(x.1, x.2)]).length = pre.length + 1 by simp)
    clear hrow hb hbel bX
    gi_wp2_with (gi_at_builtin; refine wpListIn_pushR (W := W) (v := .slice VA pre.length vc) (lo := w.heap.size) (ps := pre) (k := x.1) (x := x.2) rfl (.tmp 8) (.tmp 10) rfl rfl rfl rfl Hrow.out hws (by omega) ?_; intro g4 cap4 w4 ow4 gr4; have h := Boxed.appended Hb.out (by decide) Hrow.out hws (Nat.le_refl _) ow4 gr4; rw [e5.out] at h; have Hap := Lib.hid h; have b4 := h.1.cell; have f4 := h.1.frozen; clear ow4 gr4 h)
    exact ⟨Hap.out.2.2.2.1.from _, ⟨⟨Hap.out.2.2.2.2.block g hgB.1, Hap.out.2.2.2.2.block Bs hgB.2⟩, Hap.out.2.2.2.2.size⟩, ⟨_, Hap.out.2.1, by rw [show (pre ++ [x]).length = pre.length + 1 by simp]; exact Hap.out.2.2.1, trivial⟩, Hbel.out.trans Hap.out.2.2.2.2⟩
  case done =>
    rintro D' ys W hD hys hi hK
    rw [hys] at hi
    obtain ⟨⟨v, hb, hrow, -⟩, hbel⟩ := hi
    obtain ⟨VA, vc, rfl⟩ := OR.opened hrow
    have Hrow := Lib.hid hrow; have Hbel := Lib.hid hbel; have HK := Lib.hid hK
    have b0 := hb.cell
    have HDz : Hid (w.heap.size + 1 ≤ D') := Lib.hid (by have := Hz.out; omega)
    clear hrow hb hbel hK hD hys
    gi_wp2
    refine ⟨by simp, .inl ⟨_, _, rfl, run_takeDeferred HK.out, ?_⟩⟩
    refine ⟨.slice VA D.length vc, ?_, ⟨_, rfl, ownsRow_putObj Hrow.out _ HK.out rfl, Hbel.out.trans (belowK_b (w := w) (Nat.le_refl _) _ D' _ _ (by have := HDz.out; omega) HK.out rfl rfl)⟩⟩
    simp [results, Try.results172, go_sem]
  case stop =>
    rintro D' c pre W hD _ hf _
    exact hf.elim
end Go.Proofs.Ytlickjmdlooapaa
namespace Go.Proofs.Ytlickjmdlooapaa
open Go.RowKit Go.Shelf
set_option linter.unusedVariables false
theorem freeRuns_q {g cap : Nat} {b l q t : Int} (w : World) :
    Calls Try.prog 98 #[.agg #[.int .i64 b, .int .i64 l, .int .i64 q, .int .i64 t, .slice (some ⟨g, 0, none⟩) 64 cap, .slice (some ⟨g, 4, none⟩) 32 32]] w fun e w' => e = .returned (.func (.func 173) #[] #[.pointer (some ⟨w.heap.size, 0, none⟩)]) ∧ w' = w.alloc (.cells #[.int .i64 b, .int .i64 l, .int .i64 q, .int .i64 t, .slice (some ⟨g, 0, none⟩) 64 cap, .slice (some ⟨g, 4, none⟩) 32 32] 122) := by
  go_enter Try.func98, Try.ntmps98
  go_wp2_with fail
  go_ret
  exact ⟨rfl, rfl⟩
theorem collect_any {gf : Nat} {lb : Array Value} (hent : ∀ args w, (callFunc gf args).run Try.prog w = .ok (.enter gf args) w) {w : World} {g Bs : Nat} (hgB : g < w.heap.size ∧ Bs < w.heap.size) {D : List ER}
    (hseq : SeqStopsK Fence.wide 2 Try.prog gf lb enR (KpR g Bs) (fun ys => ys = D) (fun _ => True) 257 (w.alloc (.cells #[.slice none 0 0] 49))) :
    Calls Try.prog 97 #[.func (.func gf) #[] lb] w (AnsR D w) := by
  have C1 := Lib.hid (callsIn_wide.1 (appSeq_in 3 (by omega) hent hgB hseq))
  clear hseq hgB
  go_enter Try.func97, Try.ntmps97
  go_wp2_with fail
  refine C1.out.mono ?_
  rintro e w1 ⟨v, rfl, ho, g1⟩
  have Ho := Lib.hid ho; have Hg1 := Lib.hid g1; clear ho g1
  go_wp2_with fail
  go_ret
  exact ⟨_, rfl, Ho.out, Hg1.out⟩
set_option maxHeartbeats 4000000 in
set_option maxRecDepth 100000 in
theorem implFreeRuns_any {B : Nat} {w : World} {v0 v1 v10 v11 : Value} {ss : List ByteArray} {ps lg dt : List Pt} {fz b l q t sq at_ : Int} {off : Bool} (h0 : RiT B w v0 ss) (h1 : RiU B w v1 ps) (h10 : RiU B w v10 lg) (h11 : RiU B w v11 dt) (hB : B ≤ w.heap.size) (i4 : InI b) (i5 : InI l) :
    Calls Try.prog 31 #[.agg #[v0, v1, .int .i64 fz, .bool off, .int .i64 b, .int .i64 l, .int .i64 q, .int .i64 t, .int .i64 sq, .int .i64 at_, v10, v11]] w (AnsR (frR ss ps fz off b l q t sq at_ lg dt) w) := by
  have H0 := Lib.hid h0; obtain ⟨A0, c0, rfl, l0, m0, -⟩ := h0
  have H1 := Lib.hid h1; obtain ⟨A1, c1, rfl, l1, m1, -⟩ := h1
  have H10 := Lib.hid h10; obtain ⟨A10, c10, rfl, l10, m10, -⟩ := h10
  have H11 := Lib.hid h11; obtain ⟨A11, c11, rfl, l11, m11, -⟩ := h11
  unfold maxLen at m0 m1 m10 m11
  have Hb0 : Hid (Below w.heap.size w (w.alloc (.cells #[.slice A0 ss.length c0, .slice A1 ps.length c1, .int .i64 fz, .bool off, .int .i64 b, .int .i64 l, .int .i64 q, .int .i64 t, .int .i64 sq, .int .i64 at_, .slice A10 lg.length c10, .slice A11 dt.length c11] 42))) := Lib.hid ((Below.refl _ w).alloc (Nat.le_refl _) _)
  have R0 : Hid ((w.alloc (.cells #[.slice A0 ss.length c0, .slice A1 ps.length c1, .int .i64 fz, .bool off, .int .i64 b, .int .i64 l, .int .i64 q, .int .i64 t, .int .i64 sq, .int .i64 at_, .slice A10 lg.length c10, .slice A11 dt.length c11] 42)).heap[w.heap.size]? = some (.cells #[.slice A0 ss.length c0, .slice A1 ps.length c1, .int .i64 fz, .bool off, .int .i64 b, .int .i64 l, .int .i64 q, .int .i64 t, .int .i64 sq, .int .i64 at_, .slice A10 lg.length c10, .slice A11 dt.length c11] 42 (0, 0))) := Lib.hid (heap_alloc_new w _)
  have Lt0 : Hid (w.heap.size < (w.alloc (.cells #[.slice A0 ss.length c0, .slice A1 ps.length c1, .int .i64 fz, .bool off, .int .i64 b, .int .i64 l, .int .i64 q, .int .i64 t, .int .i64 sq, .int .i64 at_, .slice A10 lg.length c10, .slice A11 dt.length c11] 42)).heap.size) := Lib.hid (by simp)
  have C1 := Lib.hid (implValidPager_any (fz := fz) (off := off) (q := q) (t := t) (sq := sq) (at_ := at_) (H0.out.at hB Hb0.out) (H1.out.at hB Hb0.out) (H10.out.at hB Hb0.out) (H11.out.at hB Hb0.out) (Nat.le_refl _) i4 i5)
  have C2 : Hid (pgrOk ss ps fz off b l q t sq at_ lg dt = true → ∀ W, Below w.heap.size w W → _) := Lib.hid (fun hok W hW => spaceOf_any (w := W) (fz := fz) (off := off) (q := q) (t := t) (sq := sq) (at_ := at_) (H0.out.at hB hW) (H1.out.at hB hW) (H10.out.at hB hW) (H11.out.at hB hW) (Nat.le_refl _) hok)
  have HZ : Hid (pgrOk ss ps fz off b l q t sq at_ lg dt = true → (arS ss ps l lg dt).size = 64 ∧ supOk b l q t = true ∧ l + 4 ≤ b) := Lib.hid (fun hok => ⟨arS_64 hok, (pgrOk_t hok).1, (pgrOk_b hok).2.2.1⟩)
  have HV : Hid (frR ss ps fz off b l q t sq at_ lg dt = (if pgrOk ss ps fz off b l q t sq at_ lg dt then frL (arS ss ps l lg dt) l b else [])) := Lib.hid rfl
  generalize frR ss ps fz off b l q t sq at_ lg dt = D at *
  generalize arS ss ps l lg dt = ar at *
  generalize pgrOk ss ps fz off b l q t sq at_ lg dt = z at *
  go_enter Try.func31, Try.ntmps31
  go_wp2_with (refine wpList_load_row rfl 42 (.tmp 1) rfl _ rfl 42 _ (0, 0) _ R0.out Try.underlying42 rfl (by kernel_rfl) ?_)
  generalize (w.alloc (.cells #[.slice A0 ss.length c0, .slice A1 ps.length c1, .int .i64 fz, .bool off, .int .i64 b, .int .i64 l, .int .i64 q, .int .i64 t, .int .i64 sq, .int .i64 at_, .slice A10 lg.length c10, .slice A11 dt.length c11] 42)) = w0 at *
  refine C1.out.mono ?_
  rintro e w1 ⟨rfl, g⟩
  have Hb1 := Lib.hid (Hb0.out.trans (g.mono Hb0.out.size))
  have R1 := Lib.hid ((g.block _ Lt0.out).trans R0.out)
  clear g
  cases z
  · have Hf : Hid (D = []) := Lib.hid HV.out
    go_wp2_with fail
    go_ret
    exact ⟨_, rfl, by rw [Hf.out]; exact ⟨rfl, .inl ⟨rfl, rfl⟩⟩, Hb1.out⟩
  have Hf : Hid (D = frL ar l b) := Lib.hid HV.out
  have hzz := HZ.out (by first | rfl | trivial)
  go_wp2_with (refine wpList_load_row rfl 42 (.tmp 1) rfl _ rfl 42 _ (0, 0) _ R1.out Try.underlying42 rfl (by kernel_rfl) ?_)
  refine (C2.out (by first | rfl | trivial) _ Hb1.out).mono ?_
  rintro e w2 ⟨g, cap, rfl, hc1, hc2, hg1, hg2, hby, gg⟩
  have Hb2 := Lib.hid (Hb1.out.trans (gg.mono Hb1.out.size)); clear gg
  have Hw2 : Hid (Below w2.heap.size w2 (w2.alloc (.cells #[.int .i64 b, .int .i64 l, .int .i64 q, .int .i64 t, .slice (some ⟨g, 0, none⟩) 64 cap, .slice (some ⟨g, 4, none⟩) 32 32] 122))) := Lib.hid ((Below.refl _ w2).alloc (Nat.le_refl _) _)
  have HZ3 : Hid ((w2.alloc (.cells #[.int .i64 b, .int .i64 l, .int .i64 q, .int .i64 t, .slice (some ⟨g, 0, none⟩) 64 cap, .slice (some ⟨g, 4, none⟩) 32 32] 122)).heap.size = w2.heap.size + 1) := Lib.hid (by simp)
  have C3 := Lib.hid (freeRuns_q (cap := cap) (g := g) (b := b) (l := l) (q := q) (t := t) w2)
  have Hb3 : Hid (Below w.heap.size w (w2.alloc (.cells #[.int .i64 b, .int .i64 l, .int .i64 q, .int .i64 t, .slice (some ⟨g, 0, none⟩) 64 cap, .slice (some ⟨g, 4, none⟩) 32 32] 122))) := Lib.hid (Hb2.out.alloc Hb2.out.size _)
  have C4 := Lib.hid (collect_any (w := w2.alloc (.cells #[.int .i64 b, .int .i64 l, .int .i64 q, .int .i64 t, .slice (some ⟨g, 0, none⟩) 64 cap, .slice (some ⟨g, 4, none⟩) 32 32] 122)) (g := g) (Bs := w2.heap.size) (enters_of Try.func173 (by kernel_rfl) rfl) ⟨by rw [HZ3.out]; omega, by rw [HZ3.out]; omega⟩
    (frS_stops 2 (by omega) w2.heap.size g cap hzz.2.1 hzz.1 hzz.2.2 _ (by rw [heap_alloc_old _ _ (by simp)]; exact heap_alloc_new w2 _) (by simp; omega) ((hby.bel hg2 Hw2.out).bel (by rw [HZ3.out]; omega) ((Below.refl _ _).alloc (Nat.le_refl _) _))))
  clear hby hc1 hc2 hg1 hg2 hzz Hw2 HZ3
  go_wp2_with fail
  refine C3.out.mono ?_
  rintro e w3 ⟨rfl, rfl⟩
  generalize (w2.alloc (.cells #[.int .i64 b, .int .i64 l, .int .i64 q, .int .i64 t, .slice (some ⟨g, 0, none⟩) 64 cap, .slice (some ⟨g, 4, none⟩) 32 32] 122)) = w3 at *
  go_wp2_with fail
  refine C4.out.mono ?_
  rintro e w4 ⟨v, rfl, ho, gg⟩
  have Ho := Lib.hid (own_lo ho Hb3.out.size)
  have Hb4 := Lib.hid (Hb3.out.trans (gg.mono Hb3.out.size)); clear gg ho
  go_wp2_with fail
  go_ret
  exact ⟨_, rfl, by rw [Hf.out]; exact Ho.out, Hb4.out⟩
set_option maxHeartbeats 4000000 in
set_option maxRecDepth 100000 in
theorem implFreeCount_any {B : Nat} {w : World} {v0 v1 v10 v11 : Value} {ss : List ByteArray} {ps lg dt : List Pt} {fz b l q t sq at_ : Int} {off : Bool} (h0 : RiT B w v0 ss) (h1 : RiU B w v1 ps) (h10 : RiU B w v10 lg) (h11 : RiU B w v11 dt) (hB : B ≤ w.heap.size) (i4 : InI b) (i5 : InI l) :
    Calls Try.prog 29 #[.agg #[v0, v1, .int .i64 fz, .bool off, .int .i64 b, .int .i64 l, .int .i64 q, .int .i64 t, .int .i64 sq, .int .i64 at_, v10, v11]] w (GivesB (.int .i64 (frN ss ps fz off b l q t sq at_ lg dt)) w) := by
  have H0 := Lib.hid h0; obtain ⟨A0, c0, rfl, l0, m0, -⟩ := h0
  have H1 := Lib.hid h1; obtain ⟨A1, c1, rfl, l1, m1, -⟩ := h1
  have H10 := Lib.hid h10; obtain ⟨A10, c10, rfl, l10, m10, -⟩ := h10
  have H11 := Lib.hid h11; obtain ⟨A11, c11, rfl, l11, m11, -⟩ := h11
  unfold maxLen at m0 m1 m10 m11
  have Hb0 : Hid (Below w.heap.size w (w.alloc (.cells #[.slice A0 ss.length c0, .slice A1 ps.length c1, .int .i64 fz, .bool off, .int .i64 b, .int .i64 l, .int .i64 q, .int .i64 t, .int .i64 sq, .int .i64 at_, .slice A10 lg.length c10, .slice A11 dt.length c11] 42))) := Lib.hid ((Below.refl _ w).alloc (Nat.le_refl _) _)
  have R0 : Hid ((w.alloc (.cells #[.slice A0 ss.length c0, .slice A1 ps.length c1, .int .i64 fz, .bool off, .int .i64 b, .int .i64 l, .int .i64 q, .int .i64 t, .int .i64 sq, .int .i64 at_, .slice A10 lg.length c10, .slice A11 dt.length c11] 42)).heap[w.heap.size]? = some (.cells #[.slice A0 ss.length c0, .slice A1 ps.length c1, .int .i64 fz, .bool off, .int .i64 b, .int .i64 l, .int .i64 q, .int .i64 t, .int .i64 sq, .int .i64 at_, .slice A10 lg.length c10, .slice A11 dt.length c11] 42 (0, 0))) := Lib.hid (heap_alloc_new w _)
  have Lt0 : Hid (w.heap.size < (w.alloc (.cells #[.slice A0 ss.length c0, .slice A1 ps.length c1, .int .i64 fz, .bool off, .int .i64 b, .int .i64 l, .int .i64 q, .int .i64 t, .int .i64 sq, .int .i64 at_, .slice A10 lg.length c10, .slice A11 dt.length c11] 42)).heap.size) := Lib.hid (by simp)
  have C1 : Hid (∀ W, Below w.heap.size w W → _) := Lib.hid (fun W hW => implFreeRuns_any (w := W) (fz := fz) (off := off) (q := q) (t := t) (sq := sq) (at_ := at_) (H0.out.at hB hW) (H1.out.at hB hW) (H10.out.at hB hW) (H11.out.at hB hW) (Nat.le_refl _) i4 i5)
  have HK : Hid ((∀ p ∈ frR ss ps fz off b l q t sq at_ lg dt, 1 ≤ p.2) ∧ sumR (frR ss ps fz off b l q t sq at_ lg dt) ≤ 256 ∧ ∀ p ∈ frR ss ps fz off b l q t sq at_ lg dt, InI p.1 ∧ InI p.2) := Lib.hid (by
    unfold frR
    split
    · rename_i hok
      have hb := pgrOk_b hok
      have h2 := frL_bd (ar := arS ss ps l lg dt) (l := l) (b := b) (by omega) (by omega)
      exact ⟨h2.1, h2.2.1, frL_wf (by omega) (by omega)⟩
    · exact ⟨fun p hp => by simp at hp, by simp [sumR], fun p hp => by simp at hp⟩)
  have HV : Hid (frN ss ps fz off b l q t sq at_ lg dt = sumR (frR ss ps fz off b l q t sq at_ lg dt)) := Lib.hid rfl
  generalize frN ss ps fz off b l q t sq at_ lg dt = N at *
  generalize frR ss ps fz off b l q t sq at_ lg dt = L at *
  go_enter Try.func29, Try.ntmps29
  go_wp2_with (refine wpList_load_row rfl 42 (.tmp 1) rfl _ rfl 42 _ (0, 0) _ R0.out Try.underlying42 rfl (by kernel_rfl) ?_)
  generalize (w.alloc (.cells #[.slice A0 ss.length c0, .slice A1 ps.length c1, .int .i64 fz, .bool off, .int .i64 b, .int .i64 l, .int .i64 q, .int .i64 t, .int .i64 sq, .int .i64 at_, .slice A10 lg.length c10, .slice A11 dt.length c11] 42)) = w0 at *
  refine (C1.out _ Hb0.out).mono ?_
  rintro e w1 ⟨v, rfl, ho, g⟩
  have Hb1 := Lib.hid (Hb0.out.trans (g.mono Hb0.out.size)); clear g
  have Hr := Lib.hid (OR.ri ho HK.out.2.2); clear ho
  obtain ⟨A, c, rfl, hl, hm, hx⟩ := Hr.out
  have Hx := Lib.hid hx; clear hx Hr
  unfold maxLen at hm
  have HT := Lib.hid (fun k => sum_take_le HK.out.1 k)
  have hsL := HK.out.2.1
  have Hw := Lib.hid Hb1.out.size
  clear H0 H1 H10 H11 C1 R0 Lt0
  go_wp2_with fail
  go_loopw [3, 9] (fun nv iv wr => ∃ k : Nat, k ≤ L.length ∧ iv = .int .i64 (k : Int) ∧ nv = .int .i64 (sumR (L.take k)) ∧ Below w1.heap.size w1 wr) (fun _ iv _ => L.length - (intOf iv).toNat)
  case atStart => exact ⟨0, Nat.zero_le _, rfl, by simp [sumR], Below.refl _ _⟩
  case round =>
    obtain ⟨k, hk, rfl, rfl, hbel⟩ := hrel
    have Hbel := Lib.hid hbel
    by_cases hlt : k < L.length
    · obtain ⟨b1, o1, rfl, hb1, q0, q1, hr⟩ := Hx.out k hlt
      have c0 := (hbel.cell (p := ⟨b1, o1 + k * 2, none⟩) (show b1 < _ by omega)).trans q0
      have c1 := (hbel.cell (p := ⟨b1, o1 + k * 2 + 1, none⟩) (show b1 < _ by omega)).trans q1
      have Hn := Lib.hid (sum_take_succ hlt)
      have h5 := HT.out k
      have h6 := HT.out (k + 1)
      rw [Hn.out] at h6
      have HL1 : Hid (k + 1 ≤ L.length) := Lib.hid hlt
      have HL2 : Hid (k < L.length) := Lib.hid hlt
      have Hbw : Hid (∀ x y : Int, Below w1.heap.size w1 (wr.alloc (.cells #[.int .i64 x, .int .i64 y] 132))) := Lib.hid (fun x y => Hbel.out.alloc Hbel.out.size _)
      clear hbel q0 q1
      generalize sumR (L.take k) = a at *
      generalize L[k].2 = x at *
      generalize L[k].1 = x0 at *
      go_wp2_with fail
      go_roundw
      case rel => exact ⟨k + 1, HL1.out, by go_num, by rw [Hn.out], Hbw.out _ _⟩
      case measure => simp [intOf]; have := HL2.out; omega
    · obtain rfl : k = L.length := by omega
      rw [List.take_length]
      go_wp2_with fail
      go_ret
      exact ⟨by rw [HV.out]; rfl, Hb1.out.trans (Hbel.out.mono Hw.out)⟩
end Go.Proofs.Ytlickjmdlooapaa
