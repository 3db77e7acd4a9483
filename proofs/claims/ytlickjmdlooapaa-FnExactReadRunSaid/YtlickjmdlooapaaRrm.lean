/- Several texts in one: Abt, SpM, SpR, RrS, Bl2, RrI. No statement is proved here. -/
import Derived.Test.YtlickjmdlooapaaSpO
import Derived.Test.YtlickjmdlooapaaDimC
import Derived.Test.YtlickjmdlooapaaFre
import Derived.Lib.SlBytesRow
import Derived.Test.YtlickjmdlooapaaBkf
import Derived.Test.YtlickjmdlooapaaByt
import Derived.Lib.AppendStr
import Derived.Test.YtlickjmdlooapaaBld
import Derived.Test.YtlickjmdlooapaaStr
namespace Go.Proofs.Ytlickjmdlooapaa
open Go.RowKit
set_option linter.unusedVariables false
def aB (s : ByteArray) (n : Nat) : Bool := bits .and .u8 (((s.data.toList.getD (4 + n / 8) 0).toNat : Int) / 2 ^ (n % 8)) 1 == 1
theorem getD_byte (s : ByteArray) (i : Nat) (h : i < s.size) : s.data.toList.getD i 0 = s[i] := by
  rw [List.getD_eq_getElem?_getD, List.getElem?_eq_getElem (by simpa using h)]
  simp; rfl
/-- All these blocks are data blocks. -/
def dtB (b l at_ n : Int) : Bool := inB n 1 256 && (inB at_ (3 + l) (b - 1) && decide (at_ + n ≤ b))
theorem dtB_iff {b l at_ n : Int} (hb : b ≤ 256) (hl : 8 ≤ l) : dtB b l at_ n = true ↔ 1 ≤ n ∧ 3 + l ≤ at_ ∧ at_ ≤ b - n := by
  simp only [dtB, Bool.and_eq_true, inB_iff, decide_eq_true_eq]
  omega
theorem dtB_eq {b l at_ n : Int} (hb : b ≤ 256) (hl : 8 ≤ l) : dtB b l at_ n = (decide (1 ≤ n) && (decide (3 + l ≤ at_) && decide (at_ ≤ b - n))) := by
  rw [Bool.eq_iff_iff, dtB_iff hb hl]
  simp only [Bool.and_eq_true, decide_eq_true_eq]
set_option maxHeartbeats 1000000 in
set_option maxRecDepth 100000 in
theorem l13Bit_any (s : ByteArray) (n : Nat) (hs : s.size = 64) (hn : n < 256) (w : World) :
    Calls Try.prog 92 #[.string s, .int .i64 (n : Int)] w (Quiet (.bool (aB s n)) w) := by
  have h1 : 4 + n / 8 < s.size := by omega
  have HV : Hid (aB s n = (bits .and .u8 ((s[4 + n / 8].toNat : Int) / 2 ^ (n % 8)) 1 == 1)) := Lib.hid (by unfold aB; rw [getD_byte s _ h1])
  generalize aB s n = r at *
  go_enter Try.func92, Try.ntmps92
  go_wp2
  go_ret
  exact ⟨by rw [HV.out]; rfl, rfl⟩
set_option maxHeartbeats 1000000 in
set_option maxRecDepth 100000 in
theorem has_any {w : World} {g n : Nat} {s : ByteArray} (hs : s.size = 64) (hn : n < 256) (hg : ByA w g s) :
    Calls Try.prog 171 #[.slice (some ⟨g, 4, none⟩) 32 32, .int .i64 (n : Int)] w (Quiet (.bool (aB s n)) w) := by
  have h1 : n / 8 < 32 := by omega
  have q := hg (4 + n / 8) (by omega)
  have HV : Hid (aB s n = (bits .and .u8 (((s.data.toList.getD (4 + n / 8) 0).toNat : Int) / 2 ^ (n % 8)) 1 == 1)) := Lib.hid rfl
  generalize aB s n = r at *
  have hz : (s.data.toList.getD (4 + n / 8) 0).toNat < 256 := UInt8.toNat_lt _
  generalize (s.data.toList.getD (4 + n / 8) 0).toNat = x at *
  clear hg
  go_enter Try.func171, Try.ntmps171
  go_wp2
  go_ret
  exact ⟨by rw [HV.out]; rfl, rfl⟩
set_option maxHeartbeats 1000000 in
set_option maxRecDepth 100000 in
theorem hasRun_any {b l q t : Int} (at_ n : Int) (w : World) (hs : supOk b l q t = true) (hn : InI n) :
    Calls Try.prog 102 #[.agg #[.int .i64 b, .int .i64 l, .int .i64 q, .int .i64 t], .int .i64 at_, .int .i64 n] w (GivesB (.bool (dtB b l at_ n)) w) := by
  have hb := sup_b hs
  have Hb0 : Hid (Below w.heap.size w (w.alloc (.cells #[.int .i64 b, .int .i64 l, .int .i64 q, .int .i64 t] 39))) := Lib.hid ((Below.refl _ w).alloc (Nat.le_refl _) _)
  have R0 : Hid ((w.alloc (.cells #[.int .i64 b, .int .i64 l, .int .i64 q, .int .i64 t] 39)).heap[w.heap.size]? = some (.cells #[.int .i64 b, .int .i64 l, .int .i64 q, .int .i64 t] 39 (0, 0))) := Lib.hid (heap_alloc_new w _)
  have Lt0 : Hid (w.heap.size < (w.alloc (.cells #[.int .i64 b, .int .i64 l, .int .i64 q, .int .i64 t] 39)).heap.size) := Lib.hid (by simp)
  have HV := Lib.hid (dtB_eq (b := b) (l := l) (at_ := at_) (n := n) hb.2.2.2.2.2 hb.2.2.1)
  have C1 := Lib.hid (fun W => by have := implDataFirst_any b l q t W hb.1 hb.2.1; rwa [show daOf b l q t = 3 + l from by simp [daOf, hs]] at this)
  generalize dtB b l at_ n = r at *
  unfold InI at hn
  by_cases h1 : 1 ≤ n
  rotate_left
  · have Hf : Hid (r = false) := Lib.hid (by rw [HV.out, decide_eq_false h1]; rfl)
    go_enter Try.func102, Try.ntmps102
    go_wp2_with fail
    go_ret
    exact ⟨by rw [Hf.out]; rfl, Hb0.out⟩
  have hw : wrap64 (b - n) = b - n := by have h := hb.2.2.2.2; unfold wrap64; omega
  have Hw := Lib.hid hw
  have HV2 : Hid (r = (decide (3 + l ≤ at_) && decide (at_ ≤ b - n))) := Lib.hid (by rw [HV.out, decide_eq_true h1]; rfl)
  have h1' : decide (1 ≤ n) = true := decide_eq_true h1
  have Hbb := Lib.hid hb
  clear HV hb hw
  have q0 : (w.alloc (.cells #[.int .i64 b, .int .i64 l, .int .i64 q, .int .i64 t] 39)).cell? ⟨w.heap.size, 0, none⟩ = some (.int .i64 b) := by rw [cell_of_row _ _ _ _ _ _ R0.out]; rfl
  have q1 : (w.alloc (.cells #[.int .i64 b, .int .i64 l, .int .i64 q, .int .i64 t] 39)).cell? ⟨w.heap.size, 1, none⟩ = some (.int .i64 l) := by rw [cell_of_row _ _ _ _ _ _ R0.out]; rfl
  have q2 : (w.alloc (.cells #[.int .i64 b, .int .i64 l, .int .i64 q, .int .i64 t] 39)).cell? ⟨w.heap.size, 2, none⟩ = some (.int .i64 q) := by rw [cell_of_row _ _ _ _ _ _ R0.out]; rfl
  have q3 : (w.alloc (.cells #[.int .i64 b, .int .i64 l, .int .i64 q, .int .i64 t] 39)).cell? ⟨w.heap.size, 3, none⟩ = some (.int .i64 t) := by rw [cell_of_row _ _ _ _ _ _ R0.out]; rfl
  go_enter Try.func102, Try.ntmps102
  go_wp2_with fail
  clear q0 q1 q2 q3
  generalize (w.alloc (.cells #[.int .i64 b, .int .i64 l, .int .i64 q, .int .i64 t] 39)) = w0 at *
  refine (C1.out _).mono ?_
  rintro e w1 ⟨rfl, g⟩
  have Hb1 := Lib.hid (Hb0.out.trans (g.mono Hb0.out.size))
  have R1 := Lib.hid ((g.block _ Lt0.out).trans R0.out)
  clear g C1
  by_cases h2 : 3 + l ≤ at_
  rotate_left
  · have Hf : Hid (r = false) := Lib.hid (by rw [HV2.out, decide_eq_false h2]; rfl)
    go_wp2_with fail
    go_ret
    exact ⟨by rw [Hf.out]; rfl, Hb1.out⟩
  have q0 : w1.cell? ⟨w.heap.size, 0, none⟩ = some (.int .i64 b) := by rw [cell_of_row _ _ _ _ _ _ R1.out]; rfl
  by_cases h3 : at_ ≤ b - n
  · have Hf : Hid (r = true) := Lib.hid (by rw [HV2.out, decide_eq_true h2, decide_eq_true h3]; rfl)
    have h3' : Hid (decide (at_ ≤ wrap64 (b - n)) = true) := Lib.hid (by rw [Hw.out]; exact decide_eq_true h3)
    go_wp2_with fail
    go_ret
    exact ⟨by rw [Hf.out]; first | rfl | exact congrArg (fun x => Ending.returned (.bool x)) h3'.out, Hb1.out⟩
  · have Hf : Hid (r = false) := Lib.hid (by rw [HV2.out, decide_eq_false h3]; simp)
    have h3' : Hid (decide (at_ ≤ wrap64 (b - n)) = false) := Lib.hid (by rw [Hw.out]; exact decide_eq_false h3)
    go_wp2_with fail
    go_ret
    exact ⟨by rw [Hf.out]; first | rfl | exact congrArg (fun x => Ending.returned (.bool x)) h3'.out, Hb1.out⟩
end Go.Proofs.Ytlickjmdlooapaa
namespace Go.Proofs.Ytlickjmdlooapaa
open Go.RowKit
set_option linter.unusedVariables false
set_option maxHeartbeats 4000000 in
set_option maxRecDepth 100000 in
theorem l13Area_any {B g : Nat} {w : World} {v0 v1 v10 v11 : Value} {ss : List ByteArray} {ps lg dt : List Pt} {fz b l q t sq at_ : Int} {off : Bool} (hg : w.heap[g]? = some (.cells #[v0, v1, .int .i64 fz, .bool off, .int .i64 b, .int .i64 l, .int .i64 q, .int .i64 t, .int .i64 sq, .int .i64 at_, v10, v11] 42 (0, 0))) (h0 : RiT B w v0 ss) (h1 : RiU B w v1 ps) (h10 : RiU B w v10 lg) (h11 : RiU B w v11 dt) (hB : B ≤ w.heap.size) (hok : pgrOk ss ps fz off b l q t sq at_ lg dt = true) :
    Calls Try.prog 93 #[.pointer (some ⟨g, 0, none⟩)] w (GivesB (.string (arS ss ps l lg dt)) w) := by
  have hgl : g < w.heap.size := by
    rcases Nat.lt_or_ge g w.heap.size with hl | hl
    · exact hl
    · rw [Array.getElem?_eq_none hl] at hg; cases hg
  have hb := pgrOk_b hok
  have HL := Lib.hid (supOk_l (pgrOk_t hok).1)
  have Hld := Lib.hid (run_load_cells (P := Try.prog) w g 4 39 _ [.int .i64 b, .int .i64 l, .int .i64 q, .int .i64 t] (row_part hg (by intro j u hj; rcases j with _ | _ | _ | _ | j; all_goals first | exact hj | simp at hj)) Try.underlying39 rfl)
  have C2 : Hid (∀ W, Below w.heap.size w W → _) := Lib.hid (fun W hW => l12Get_any (w := W) (k := 2 + l) (fz := fz) (off := off) (b := b) (l := l) (q := q) (t := t) (sq := sq) (at_ := at_) ((hW.block _ hgl).trans hg) (h0.at hB hW) (h1.at hB hW) (h10.at hB hW) (h11.at hB hW) (Nat.le_refl _) (by omega) (by omega))
  have HA : Hid (arS ss ps l lg dt = gtS ss ps lg dt (2 + l)) := Lib.hid rfl
  rw [← HA.out] at C2
  clear HA hb hg hok h0 h1 h10 h11
  generalize arS ss ps l lg dt = ar at *
  go_enter Try.func93, Try.ntmps93
  go_wp2_with (refine wpList_load_agg rfl 39 (.tmp 6) rfl _ rfl _ Hld.out ?_)
  refine (l10Area_any b l q t _ HL.out).mono ?_
  rintro e w1 ⟨rfl, g1⟩
  have Hg1 := Lib.hid g1; clear g1
  go_wp2_with fail
  refine (C2.out _ Hg1.out).mono ?_
  rintro e w2 ⟨rfl, g2⟩
  have Hg2 := Lib.hid (Hg1.out.trans (g2.mono Hg1.out.size)); clear g2
  go_wp2_with fail
  go_ret
  exact ⟨rfl, Hg2.out⟩
set_option maxHeartbeats 4000000 in
set_option maxRecDepth 100000 in
theorem l13First_any {g : Nat} {w : World} {v0 v1 v10 v11 : Value} {fz b l q t sq at_ : Int} {off : Bool} (hg : w.heap[g]? = some (.cells #[v0, v1, .int .i64 fz, .bool off, .int .i64 b, .int .i64 l, .int .i64 q, .int .i64 t, .int .i64 sq, .int .i64 at_, v10, v11] 42 (0, 0))) (hs : supOk b l q t = true) :
    Calls Try.prog 169 #[.pointer (some ⟨g, 0, none⟩)] w (GivesB (.int .i64 (2 + l + 1)) w) := by
  have hb := sup_b hs
  have HL := Lib.hid (supOk_l hs)
  have Hld := Lib.hid (run_load_cells (P := Try.prog) w g 4 39 _ [.int .i64 b, .int .i64 l, .int .i64 q, .int .i64 t] (row_part hg (by intro j u hj; rcases j with _ | _ | _ | _ | j; all_goals first | exact hj | simp at hj)) Try.underlying39 rfl)
  clear hg hs
  have hl := hb.2.2
  clear hb
  go_enter Try.func169, Try.ntmps169
  go_wp2_with (refine wpList_load_agg rfl 39 (.tmp 5) rfl _ rfl _ Hld.out ?_)
  refine (l10Area_any b l q t _ HL.out).mono ?_
  rintro e w1 ⟨rfl, g1⟩
  have Hg1 := Lib.hid g1; clear g1
  go_wp2_with fail
  go_ret
  exact ⟨rfl, Hg1.out⟩
set_option maxHeartbeats 4000000 in
set_option maxRecDepth 100000 in
theorem l13Data_any {g : Nat} {w : World} {v0 v1 v10 v11 : Value} {fz b l q t sq at_ : Int} {off : Bool} (x n : Int) (hg : w.heap[g]? = some (.cells #[v0, v1, .int .i64 fz, .bool off, .int .i64 b, .int .i64 l, .int .i64 q, .int .i64 t, .int .i64 sq, .int .i64 at_, v10, v11] 42 (0, 0))) (hs : supOk b l q t = true) (hx : InI x) :
    Calls Try.prog 91 #[.pointer (some ⟨g, 0, none⟩), .int .i64 x, .int .i64 n] w (GivesB (.bool (dtB b l x n)) w) := by
  have hgl : g < w.heap.size := by
    rcases Nat.lt_or_ge g w.heap.size with hl | hl
    · exact hl
    · rw [Array.getElem?_eq_none hl] at hg; cases hg
  have hb := sup_b hs
  have HV : Hid (dtB b l x n = (inB n 1 256 && (inB x (3 + l) (b - 1) && decide (x + n ≤ b)))) := Lib.hid rfl
  have HF : Hid (∀ W, Below w.heap.size w W → Calls Try.prog 169 #[.pointer (some ⟨g, 0, none⟩)] W (GivesB (.int .i64 (2 + l + 1)) W)) := Lib.hid (fun W hW => l13First_any ((hW.block _ hgl).trans hg) hs)
  have HS : Hid (∀ W, Below w.heap.size w W → W.cell? ⟨g, 4, none⟩ = some (.int .i64 b)) := Lib.hid (fun W hW => by rw [cell_of_row _ _ _ _ _ _ ((hW.block _ hgl).trans hg)]; rfl)
  have I1 := Lib.hid (fun W => l00In_any n 1 256 W)
  have I2 := Lib.hid (fun W => l00In_any x (2 + l + 1) (b - 1) W)
  have e3 : (2 + l + 1 : Int) = 3 + l := by omega
  rw [e3] at HF I2
  clear hg hs
  have hl := hb.2.2
  clear hb
  have HD : Hid (Below w.heap.size w w.drew) := Lib.hid (Below.refl _ _).drew
  have H1 := Lib.hid (@inB_iff n 1 256)
  have H2 := Lib.hid (@inB_iff x (3 + l) (b - 1))
  have hbw : IntKind.i64.wrap (b - 1) = b - 1 := IntWalk.i64_in _ (by omega)
  have Hl := Lib.hid hl
  generalize dtB b l x n = r at *
  generalize inB n 1 256 = y1 at *
  generalize inB x (3 + l) (b - 1) = y2 at *
  unfold InI at hx
  go_enter Try.func91, Try.ntmps91
  go_wp2
  refine wp_region_held_drew (S := (fun W => W.cell? ⟨g, 4, none⟩ = some (.int .i64 b))) (by kernel_rfl) (HS.out _ HD.out) (fun hHeld => ?_)
  refine held_yes 0 (some 7) rfl rfl (by kernel_rfl) (by kernel_rfl) (by kernel_rfl) (fun _ _ _ h => h) (by kernel_rfl) hHeld (v := ?_) (fun wz hSw => ?_) ?_
  rotate_left 1
  · (try dsimp only at hSw); go_simp; (try with_reducible rfl)
  try simp only [Act.put, List.setIfInBounds_toArray, List.set_cons_zero, List.set_cons_succ]
  refine wpAnyH_ready (rs := [1]) (by kernel_rfl) (by simp) ?_
  refine AllReadyH.cons rfl (fun K hK => ?_) AllReadyH.nil
  go_simp
  (go_at_call 80; go_fit (I1.out _); rintro e u0 ⟨rfl, rfl⟩)
  refine hK.out _ _ (HS.out _ HD.out) (fun hHeld => ?_)
  clear hK K
  try simp only [Act.put, List.setIfInBounds_toArray, List.set_cons_zero, List.set_cons_succ]
  cases y1
  · skip
    refine held_yes 2 (some 9) rfl rfl (by kernel_rfl) (by kernel_rfl) (by kernel_rfl) (fun _ _ _ h => h) (by kernel_rfl) hHeld (v := ?_) (fun wz hSw => ?_) ?_
    rotate_left 1
    · (try dsimp only at hSw); go_simp; (try with_reducible rfl)
    try simp only [Act.put, List.setIfInBounds_toArray, List.set_cons_zero, List.set_cons_succ]
    refine held_no 3 (some 10) rfl rfl (by kernel_rfl) (by kernel_rfl) (by kernel_rfl) (fun _ _ _ h => h) (by kernel_rfl) hHeld ?_
    try simp only [Act.put, List.setIfInBounds_toArray, List.set_cons_zero, List.set_cons_succ]
    refine held_no 4 (some 11) rfl rfl (by kernel_rfl) (by kernel_rfl) (by kernel_rfl) (fun _ _ _ h => h) (by kernel_rfl) hHeld ?_
    try simp only [Act.put, List.setIfInBounds_toArray, List.set_cons_zero, List.set_cons_succ]
    refine held_no 6 (some 13) rfl rfl (by kernel_rfl) (by kernel_rfl) (by kernel_rfl) (fun _ _ _ h => h) (by kernel_rfl) hHeld ?_
    try simp only [Act.put, List.setIfInBounds_toArray, List.set_cons_zero, List.set_cons_succ]
    refine held_no 7 (some 14) rfl rfl (by kernel_rfl) (by kernel_rfl) (by kernel_rfl) (fun _ _ _ h => h) (by kernel_rfl) hHeld ?_
    try simp only [Act.put, List.setIfInBounds_toArray, List.set_cons_zero, List.set_cons_succ]
    refine held_no 8 (some 15) rfl rfl (by kernel_rfl) (by kernel_rfl) (by kernel_rfl) (fun _ _ _ h => h) (by kernel_rfl) hHeld ?_
    try simp only [Act.put, List.setIfInBounds_toArray, List.set_cons_zero, List.set_cons_succ]
    refine held_no 9 (some 16) rfl rfl (by kernel_rfl) (by kernel_rfl) (by kernel_rfl) (fun _ _ _ h => h) (by kernel_rfl) hHeld ?_
    try simp only [Act.put, List.setIfInBounds_toArray, List.set_cons_zero, List.set_cons_succ]
    refine held_no 10 (some 17) rfl rfl (by kernel_rfl) (by kernel_rfl) (by kernel_rfl) (fun _ _ _ h => h) (by kernel_rfl) hHeld ?_
    try simp only [Act.put, List.setIfInBounds_toArray, List.set_cons_zero, List.set_cons_succ]
    refine held_no 11 (some 18) rfl rfl (by kernel_rfl) (by kernel_rfl) (by kernel_rfl) (fun _ _ _ h => h) (by kernel_rfl) hHeld ?_
    try simp only [Act.put, List.setIfInBounds_toArray, List.set_cons_zero, List.set_cons_succ]
    refine held_no 5 (some 12) rfl rfl (by kernel_rfl) (by kernel_rfl) (by kernel_rfl) (fun _ _ _ h => h) (by kernel_rfl) hHeld ?_
    try simp only [Act.put, List.setIfInBounds_toArray, List.set_cons_zero, List.set_cons_succ]
    refine held_no 12 (some 19) rfl rfl (by kernel_rfl) (by kernel_rfl) (by kernel_rfl) (fun _ _ _ h => h) (by kernel_rfl) hHeld ?_
    try simp only [Act.put, List.setIfInBounds_toArray, List.set_cons_zero, List.set_cons_succ]
    refine held_yes 13 (some 20) rfl rfl (by kernel_rfl) (by kernel_rfl) (by kernel_rfl) (fun _ _ _ h => h) (by kernel_rfl) hHeld (v := ?_) (fun wz hSw => ?_) ?_
    rotate_left 1
    · (try dsimp only at hSw); go_simp; (try with_reducible rfl)
    try simp only [Act.put, List.setIfInBounds_toArray, List.set_cons_zero, List.set_cons_succ]
    refine held_yes 14 (some 21) rfl rfl (by kernel_rfl) (by kernel_rfl) (by kernel_rfl) (fun _ _ _ h => h) (by kernel_rfl) hHeld (v := ?_) (fun wz hSw => ?_) ?_
    rotate_left 1
    · (try dsimp only at hSw); go_simp; (try with_reducible rfl)
    try simp only [Act.put, List.setIfInBounds_toArray, List.set_cons_zero, List.set_cons_succ]
    refine held_no 15 (some 22) rfl rfl (by kernel_rfl) (by kernel_rfl) (by kernel_rfl) (fun _ _ _ h => h) (by kernel_rfl) hHeld ?_
    try simp only [Act.put, List.setIfInBounds_toArray, List.set_cons_zero, List.set_cons_succ]
    refine held_no 16 (some 23) rfl rfl (by kernel_rfl) (by kernel_rfl) (by kernel_rfl) (fun _ _ _ h => h) (by kernel_rfl) hHeld ?_
    try simp only [Act.put, List.setIfInBounds_toArray, List.set_cons_zero, List.set_cons_succ]
    refine held_no 17 (some 24) rfl rfl (by kernel_rfl) (by kernel_rfl) (by kernel_rfl) (fun _ _ _ h => h) (by kernel_rfl) hHeld ?_
    try simp only [Act.put, List.setIfInBounds_toArray, List.set_cons_zero, List.set_cons_succ]
    refine held_no 18 (some 25) rfl rfl (by kernel_rfl) (by kernel_rfl) (by kernel_rfl) (fun _ _ _ h => h) (by kernel_rfl) hHeld ?_
    try simp only [Act.put, List.setIfInBounds_toArray, List.set_cons_zero, List.set_cons_succ]
    refine held_no 19 (some 26) rfl rfl (by kernel_rfl) (by kernel_rfl) (by kernel_rfl) (fun _ _ _ h => h) (by kernel_rfl) hHeld ?_
    try simp only [Act.put, List.setIfInBounds_toArray, List.set_cons_zero, List.set_cons_succ]
    refine held_no 20 (some 27) rfl rfl (by kernel_rfl) (by kernel_rfl) (by kernel_rfl) (fun _ _ _ h => h) (by kernel_rfl) hHeld ?_
    try simp only [Act.put, List.setIfInBounds_toArray, List.set_cons_zero, List.set_cons_succ]
    refine held_no 21 (some 28) rfl rfl (by kernel_rfl) (by kernel_rfl) (by kernel_rfl) (fun _ _ _ h => h) (by kernel_rfl) hHeld ?_
    try simp only [Act.put, List.setIfInBounds_toArray, List.set_cons_zero, List.set_cons_succ]
    refine held_no 22 (some 29) rfl rfl (by kernel_rfl) (by kernel_rfl) (by kernel_rfl) (fun _ _ _ h => h) (by kernel_rfl) hHeld ?_
    try simp only [Act.put, List.setIfInBounds_toArray, List.set_cons_zero, List.set_cons_succ]
    refine held_no 23 (some 30) rfl rfl (by kernel_rfl) (by kernel_rfl) (by kernel_rfl) (fun _ _ _ h => h) (by kernel_rfl) hHeld ?_
    try simp only [Act.put, List.setIfInBounds_toArray, List.set_cons_zero, List.set_cons_succ]
    refine held_yes 24 (some 31) rfl rfl (by kernel_rfl) (by kernel_rfl) (by kernel_rfl) (fun _ _ _ h => h) (by kernel_rfl) hHeld (v := ?_) (fun wz hSw => ?_) ?_
    rotate_left 1
    · (try dsimp only at hSw); go_simp; (try with_reducible rfl)
    try simp only [Act.put, List.setIfInBounds_toArray, List.set_cons_zero, List.set_cons_succ]
    refine held_yes 25 (some 6) rfl rfl (by kernel_rfl) (by kernel_rfl) (by kernel_rfl) (fun _ _ _ h => h) (by kernel_rfl) hHeld (v := ?_) (fun wz hSw => ?_) ?_
    rotate_left 1
    · (try dsimp only at hSw); go_simp; (try with_reducible rfl)
    try simp only [Act.put, List.setIfInBounds_toArray, List.set_cons_zero, List.set_cons_succ]
    refine wpAnyH_done (by kernel_rfl) ?_ _
    try simp only [Exit.then]
    have Hf : Hid (r = false) := Lib.hid (by rw [HV.out]; rfl)
    go_wp2_with fail
    go_ret
    exact ⟨by rw [Hf.out]; rfl, HD.out⟩
  refine held_yes 2 (some 9) rfl rfl (by kernel_rfl) (by kernel_rfl) (by kernel_rfl) (fun _ _ _ h => h) (by kernel_rfl) hHeld (v := ?_) (fun wz hSw => ?_) ?_
  rotate_left 1
  · (try dsimp only at hSw); go_simp; (try with_reducible rfl)
  try simp only [Act.put, List.setIfInBounds_toArray, List.set_cons_zero, List.set_cons_succ]
  refine held_yes 3 (some 10) rfl rfl (by kernel_rfl) (by kernel_rfl) (by kernel_rfl) (fun _ _ _ h => h) (by kernel_rfl) hHeld (v := ?_) (fun wz hSw => ?_) ?_
  rotate_left 1
  · (try dsimp only at hSw); go_simp; (try with_reducible rfl)
  try simp only [Act.put, List.setIfInBounds_toArray, List.set_cons_zero, List.set_cons_succ]
  refine held_yes 4 (some 11) rfl rfl (by kernel_rfl) (by kernel_rfl) (by kernel_rfl) (fun _ _ _ h => h) (by kernel_rfl) hHeld (v := ?_) (fun wz hSw => ?_) ?_
  rotate_left 1
  · (try dsimp only at hSw); go_simp; (try with_reducible rfl)
  try simp only [Act.put, List.setIfInBounds_toArray, List.set_cons_zero, List.set_cons_succ]
  refine held_yes 6 (some 13) rfl rfl (by kernel_rfl) (by kernel_rfl) (by kernel_rfl) (fun _ _ _ h => h) (by kernel_rfl) hHeld (v := ?_) (fun wz hSw => ?_) ?_
  rotate_left 1
  · (try dsimp only at hSw); go_simp; (try with_reducible rfl)
  try simp only [Act.put, List.setIfInBounds_toArray, List.set_cons_zero, List.set_cons_succ]
  refine held_yes 7 (some 14) rfl rfl (by kernel_rfl) (by kernel_rfl) (by kernel_rfl) (fun _ _ _ h => h) (by kernel_rfl) hHeld (v := ?_) (fun wz hSw => ?_) ?_
  rotate_left 1
  · (try dsimp only at hSw); go_simp; (try with_reducible rfl)
  try simp only [Act.put, List.setIfInBounds_toArray, List.set_cons_zero, List.set_cons_succ]
  refine held_yes 8 (some 15) rfl rfl (by kernel_rfl) (by kernel_rfl) (by kernel_rfl) (fun _ _ _ h => h) (by kernel_rfl) hHeld (v := ?_) (fun wz hSw => ?_) ?_
  rotate_left 1
  · (try dsimp only at hSw); go_simp; (try with_reducible rfl)
  try simp only [Act.put, List.setIfInBounds_toArray, List.set_cons_zero, List.set_cons_succ]
  refine held_yes 9 (some 16) rfl rfl (by kernel_rfl) (by kernel_rfl) (by kernel_rfl) (fun _ _ _ h => h) (by kernel_rfl) hHeld (v := ?_) (fun wz hSw => ?_) ?_
  rotate_left 1
  · (try dsimp only at hSw); go_simp; (try with_reducible rfl)
  try simp only [Act.put, List.setIfInBounds_toArray, List.set_cons_zero, List.set_cons_succ]
  refine held_yes 10 (some 17) rfl rfl (by kernel_rfl) (by kernel_rfl) (by kernel_rfl) (fun _ _ _ h => h) (by kernel_rfl) hHeld (v := ?_) (fun wz hSw => ?_) ?_
  rotate_left 1
  · (try dsimp only at hSw); go_simp; (try with_reducible rfl)
  try simp only [Act.put, List.setIfInBounds_toArray, List.set_cons_zero, List.set_cons_succ]
  refine held_yes 11 (some 18) rfl rfl (by kernel_rfl) (by kernel_rfl) (by kernel_rfl) (fun _ _ _ h => h) (by kernel_rfl) hHeld (v := ?_) (fun wz hSw => ?_) ?_
  rotate_left 1
  · (try dsimp only at hSw); go_simp; (try with_reducible rfl)
  try simp only [Act.put, List.setIfInBounds_toArray, List.set_cons_zero, List.set_cons_succ]
  refine wpAnyH_ready (rs := [5]) (by kernel_rfl) (by simp) ?_
  refine AllReadyH.cons rfl (fun K hK => ?_) AllReadyH.nil
  go_simp
  (go_at_call 169; go_fit (HF.out _ HD.out); rintro e u1 ⟨rfl, g1⟩; have kb1 : Below w.heap.size w u1 := HD.out.trans (g1.mono HD.out.size); clear g1)
  refine hK.out _ _ (HS.out _ kb1) (fun hHeld => ?_)
  clear hK K
  try simp only [Act.put, List.setIfInBounds_toArray, List.set_cons_zero, List.set_cons_succ]
  refine wpAnyH_ready (rs := [12]) (by kernel_rfl) (by simp) ?_
  refine AllReadyH.cons rfl (fun K hK => ?_) AllReadyH.nil
  go_simp
  (go_at_call 80; go_fit (I2.out _); rintro e u2 ⟨rfl, rfl⟩)
  refine hK.out _ _ (HS.out _ kb1) (fun hHeld => ?_)
  clear hK K
  try simp only [Act.put, List.setIfInBounds_toArray, List.set_cons_zero, List.set_cons_succ]
  have hn := H1.out.1 rfl
  cases y2
  · skip
    refine held_yes 13 (some 20) rfl rfl (by kernel_rfl) (by kernel_rfl) (by kernel_rfl) (fun _ _ _ h => h) (by kernel_rfl) hHeld (v := ?_) (fun wz hSw => ?_) ?_
    rotate_left 1
    · (try dsimp only at hSw); go_simp; (try with_reducible rfl)
    try simp only [Act.put, List.setIfInBounds_toArray, List.set_cons_zero, List.set_cons_succ]
    refine held_yes 14 (some 21) rfl rfl (by kernel_rfl) (by kernel_rfl) (by kernel_rfl) (fun _ _ _ h => h) (by kernel_rfl) hHeld (v := ?_) (fun wz hSw => ?_) ?_
    rotate_left 1
    · (try dsimp only at hSw); go_simp; (try with_reducible rfl)
    try simp only [Act.put, List.setIfInBounds_toArray, List.set_cons_zero, List.set_cons_succ]
    refine held_no 15 (some 22) rfl rfl (by kernel_rfl) (by kernel_rfl) (by kernel_rfl) (fun _ _ _ h => h) (by kernel_rfl) hHeld ?_
    try simp only [Act.put, List.setIfInBounds_toArray, List.set_cons_zero, List.set_cons_succ]
    refine held_no 16 (some 23) rfl rfl (by kernel_rfl) (by kernel_rfl) (by kernel_rfl) (fun _ _ _ h => h) (by kernel_rfl) hHeld ?_
    try simp only [Act.put, List.setIfInBounds_toArray, List.set_cons_zero, List.set_cons_succ]
    refine held_no 17 (some 24) rfl rfl (by kernel_rfl) (by kernel_rfl) (by kernel_rfl) (fun _ _ _ h => h) (by kernel_rfl) hHeld ?_
    try simp only [Act.put, List.setIfInBounds_toArray, List.set_cons_zero, List.set_cons_succ]
    refine held_no 18 (some 25) rfl rfl (by kernel_rfl) (by kernel_rfl) (by kernel_rfl) (fun _ _ _ h => h) (by kernel_rfl) hHeld ?_
    try simp only [Act.put, List.setIfInBounds_toArray, List.set_cons_zero, List.set_cons_succ]
    refine held_no 19 (some 26) rfl rfl (by kernel_rfl) (by kernel_rfl) (by kernel_rfl) (fun _ _ _ h => h) (by kernel_rfl) hHeld ?_
    try simp only [Act.put, List.setIfInBounds_toArray, List.set_cons_zero, List.set_cons_succ]
    refine held_no 20 (some 27) rfl rfl (by kernel_rfl) (by kernel_rfl) (by kernel_rfl) (fun _ _ _ h => h) (by kernel_rfl) hHeld ?_
    try simp only [Act.put, List.setIfInBounds_toArray, List.set_cons_zero, List.set_cons_succ]
    refine held_no 21 (some 28) rfl rfl (by kernel_rfl) (by kernel_rfl) (by kernel_rfl) (fun _ _ _ h => h) (by kernel_rfl) hHeld ?_
    try simp only [Act.put, List.setIfInBounds_toArray, List.set_cons_zero, List.set_cons_succ]
    refine held_no 22 (some 29) rfl rfl (by kernel_rfl) (by kernel_rfl) (by kernel_rfl) (fun _ _ _ h => h) (by kernel_rfl) hHeld ?_
    try simp only [Act.put, List.setIfInBounds_toArray, List.set_cons_zero, List.set_cons_succ]
    refine held_no 23 (some 30) rfl rfl (by kernel_rfl) (by kernel_rfl) (by kernel_rfl) (fun _ _ _ h => h) (by kernel_rfl) hHeld ?_
    try simp only [Act.put, List.setIfInBounds_toArray, List.set_cons_zero, List.set_cons_succ]
    refine held_yes 24 (some 31) rfl rfl (by kernel_rfl) (by kernel_rfl) (by kernel_rfl) (fun _ _ _ h => h) (by kernel_rfl) hHeld (v := ?_) (fun wz hSw => ?_) ?_
    rotate_left 1
    · (try dsimp only at hSw); go_simp; (try with_reducible rfl)
    try simp only [Act.put, List.setIfInBounds_toArray, List.set_cons_zero, List.set_cons_succ]
    refine held_yes 25 (some 6) rfl rfl (by kernel_rfl) (by kernel_rfl) (by kernel_rfl) (fun _ _ _ h => h) (by kernel_rfl) hHeld (v := ?_) (fun wz hSw => ?_) ?_
    rotate_left 1
    · (try dsimp only at hSw); go_simp; (try with_reducible rfl)
    try simp only [Act.put, List.setIfInBounds_toArray, List.set_cons_zero, List.set_cons_succ]
    refine wpAnyH_done (by kernel_rfl) ?_ _
    try simp only [Exit.then]
    have Hf : Hid (r = false) := Lib.hid (by rw [HV.out]; rfl)
    go_wp2_with fail
    go_ret
    exact ⟨by rw [Hf.out]; rfl, kb1⟩
  refine held_yes 13 (some 20) rfl rfl (by kernel_rfl) (by kernel_rfl) (by kernel_rfl) (fun _ _ _ h => h) (by kernel_rfl) hHeld (v := ?_) (fun wz hSw => ?_) ?_
  rotate_left 1
  · (try dsimp only at hSw); go_simp; (try with_reducible rfl)
  try simp only [Act.put, List.setIfInBounds_toArray, List.set_cons_zero, List.set_cons_succ]
  refine held_yes 14 (some 21) rfl rfl (by kernel_rfl) (by kernel_rfl) (by kernel_rfl) (fun _ _ _ h => h) (by kernel_rfl) hHeld (v := ?_) (fun wz hSw => ?_) ?_
  rotate_left 1
  · (try dsimp only at hSw); go_simp; (try with_reducible rfl)
  try simp only [Act.put, List.setIfInBounds_toArray, List.set_cons_zero, List.set_cons_succ]
  refine held_yes 15 (some 22) rfl rfl (by kernel_rfl) (by kernel_rfl) (by kernel_rfl) (fun _ _ _ h => h) (by kernel_rfl) hHeld (v := ?_) (fun wz hSw => ?_) ?_
  rotate_left 1
  · (try dsimp only at hSw); go_simp; (try with_reducible rfl)
  try simp only [Act.put, List.setIfInBounds_toArray, List.set_cons_zero, List.set_cons_succ]
  refine held_yes 16 (some 23) rfl rfl (by kernel_rfl) (by kernel_rfl) (by kernel_rfl) (fun _ _ _ h => h) (by kernel_rfl) hHeld (v := ?_) (fun wz hSw => ?_) ?_
  rotate_left 1
  · (try dsimp only at hSw); go_simp; (try with_reducible rfl)
  try simp only [Act.put, List.setIfInBounds_toArray, List.set_cons_zero, List.set_cons_succ]
  refine held_yes 17 (some 24) rfl rfl (by kernel_rfl) (by kernel_rfl) (by kernel_rfl) (fun _ _ _ h => h) (by kernel_rfl) hHeld (v := ?_) (fun wz hSw => ?_) ?_
  rotate_left 1
  · (try dsimp only at hSw); go_simp; (try with_reducible rfl)
  try simp only [Act.put, List.setIfInBounds_toArray, List.set_cons_zero, List.set_cons_succ]
  refine held_yes 18 (some 25) rfl rfl (by kernel_rfl) (by kernel_rfl) (by kernel_rfl) (fun _ _ _ h => h) (by kernel_rfl) hHeld (v := ?_) (fun wz hSw => ?_) ?_
  rotate_left 1
  · (try dsimp only at hSw); go_simp; (try with_reducible rfl)
  try simp only [Act.put, List.setIfInBounds_toArray, List.set_cons_zero, List.set_cons_succ]
  refine held_yes 19 (some 26) rfl rfl (by kernel_rfl) (by kernel_rfl) (by kernel_rfl) (fun _ _ _ h => h) (by kernel_rfl) hHeld (v := ?_) (fun wz hSw => ?_) ?_
  rotate_left 1
  · (try dsimp only at hSw); go_simp; (try with_reducible rfl)
  try simp only [Act.put, List.setIfInBounds_toArray, List.set_cons_zero, List.set_cons_succ]
  refine held_yes 20 (some 27) rfl rfl (by kernel_rfl) (by kernel_rfl) (by kernel_rfl) (fun _ _ _ h => h) (by kernel_rfl) hHeld (v := ?_) (fun wz hSw => ?_) ?_
  rotate_left 1
  · (try dsimp only at hSw); go_simp; (try with_reducible rfl)
  try simp only [Act.put, List.setIfInBounds_toArray, List.set_cons_zero, List.set_cons_succ]
  refine held_yes 21 (some 28) rfl rfl (by kernel_rfl) (by kernel_rfl) (by kernel_rfl) (fun _ _ _ h => h) (by kernel_rfl) hHeld (v := ?_) (fun wz hSw => ?_) ?_
  rotate_left 1
  · (try dsimp only at hSw); go_simp; (try with_reducible rfl)
  try simp only [Act.put, List.setIfInBounds_toArray, List.set_cons_zero, List.set_cons_succ]
  refine held_yes 22 (some 29) rfl rfl (by kernel_rfl) (by kernel_rfl) (by kernel_rfl) (fun _ _ _ h => h) (by kernel_rfl) hHeld (v := ?_) (fun wz hSw => ?_) ?_
  rotate_left 1
  · (try dsimp only at hSw); go_simp; (try with_reducible rfl)
  try simp only [Act.put, List.setIfInBounds_toArray, List.set_cons_zero, List.set_cons_succ]
  refine held_yes 23 (some 30) rfl rfl (by kernel_rfl) (by kernel_rfl) (by kernel_rfl) (fun _ _ _ h => h) (by kernel_rfl) hHeld (v := ?_) (fun wz hSw => ?_) ?_
  rotate_left 1
  · (try dsimp only at hSw); go_simp; (try with_reducible rfl)
  try simp only [Act.put, List.setIfInBounds_toArray, List.set_cons_zero, List.set_cons_succ]
  refine held_yes 24 (some 31) rfl rfl (by kernel_rfl) (by kernel_rfl) (by kernel_rfl) (fun _ _ _ h => h) (by kernel_rfl) hHeld (v := ?_) (fun wz hSw => ?_) ?_
  rotate_left 1
  · (try dsimp only at hSw); go_simp; (try with_reducible rfl)
  try simp only [Act.put, List.setIfInBounds_toArray, List.set_cons_zero, List.set_cons_succ]
  refine held_yes 25 (some 6) rfl rfl (by kernel_rfl) (by kernel_rfl) (by kernel_rfl) (fun _ _ _ h => h) (by kernel_rfl) hHeld (v := ?_) (fun wz hSw => ?_) ?_
  rotate_left 1
  · (try dsimp only at hSw); go_simp; (try with_reducible rfl)
  try simp only [Act.put, List.setIfInBounds_toArray, List.set_cons_zero, List.set_cons_succ]
  refine wpAnyH_done (by kernel_rfl) ?_ _
  try simp only [Exit.then]
  have Hf : Hid (r = decide (x + n ≤ b)) := Lib.hid (by rw [HV.out]; rfl)
  have hn2 := H1.out.1 rfl
  have hx2 := H2.out.1 rfl
  have hs9 := Hl.out
  have hw9 : IntKind.i64.wrap (x + n) = x + n := IntWalk.i64_in _ (by omega)
  go_wp2_with fail
  go_ret
  exact ⟨by rw [Hf.out]; first | rfl | (show Ending.returned (.bool (decide (IntKind.i64.wrap (x + n) ≤ b))) = _; rw [hw9]), kb1⟩
/-- The root, and the code. -/
def roV (ss : List ByteArray) (ps : List Pt) (fz : Int) (off : Bool) (b l q t sq at_ : Int) (lg dt : List Pt) : Int := if pgrOk ss ps fz off b l q t sq at_ lg dt then nV (arS ss ps l lg dt) 2 else 0
def roC (ss : List ByteArray) (ps : List Pt) (fz : Int) (off : Bool) (b l q t sq at_ : Int) (lg dt : List Pt) : Int := if pgrOk ss ps fz off b l q t sq at_ lg dt then 0 else 1
def iaV (ss : List ByteArray) (ps : List Pt) (fz : Int) (off : Bool) (b l q t sq at_ : Int) (lg dt : List Pt) (k : Int) : Bool := pgrOk ss ps fz off b l q t sq at_ lg dt && (dtB b l k 1 && aB (arS ss ps l lg dt) k.toNat)
theorem nV_get {s : ByteArray} (hs : s.size = 64) : ∃ ok, getU s 0 2 = .tuple #[.int .i64 (nV s 2), .bool ok] := by
  have h := getU_gV s 0 2 (by omega) (by omega) (by omega)
  unfold nV
  rw [if_pos (by omega)]
  exact ⟨_, h⟩
set_option maxHeartbeats 4000000 in
set_option maxRecDepth 100000 in
theorem l13Root_any {B g : Nat} {w : World} {v0 v1 v10 v11 : Value} {ss : List ByteArray} {ps lg dt : List Pt} {fz b l q t sq at_ : Int} {off : Bool} (hg : w.heap[g]? = some (.cells #[v0, v1, .int .i64 fz, .bool off, .int .i64 b, .int .i64 l, .int .i64 q, .int .i64 t, .int .i64 sq, .int .i64 at_, v10, v11] 42 (0, 0))) (h0 : RiT B w v0 ss) (h1 : RiU B w v1 ps) (h10 : RiU B w v10 lg) (h11 : RiU B w v11 dt) (hB : B ≤ w.heap.size) (hok : pgrOk ss ps fz off b l q t sq at_ lg dt = true) :
    Calls Try.prog 84 #[.pointer (some ⟨g, 0, none⟩)] w (GivesB (.int .i64 (nV (arS ss ps l lg dt) 2)) w) := by
  have C1 := Lib.hid (l13Area_any hg h0 h1 h10 h11 hB hok)
  have hz := arS_64 hok
  obtain ⟨ok, hgt⟩ := nV_get hz
  have C2 := Lib.hid (fun W => l01GetUint_any (arS ss ps l lg dt) 0 2 (by omega) (by omega) W)
  rw [hgt] at C2
  clear hgt hok hg h0 h1 h10 h11 hz
  generalize nV (arS ss ps l lg dt) 2 = x at *
  generalize arS ss ps l lg dt = ar at *
  go_enter Try.func84, Try.ntmps84
  go_wp2_with fail
  refine C1.out.mono ?_
  rintro e w1 ⟨rfl, g1⟩
  have Hg1 := Lib.hid g1; clear g1
  go_wp2_with ((go_at_call 121; refine (C2.out _).mono ?_; rintro e w' ⟨rfl, rfl⟩))
  go_ret
  exact ⟨rfl, Hg1.out⟩
set_option maxHeartbeats 4000000 in
set_option maxRecDepth 100000 in
theorem specRootOf_any {B : Nat} {w : World} {v0 v1 v10 v11 : Value} {ss : List ByteArray} {ps lg dt : List Pt} {fz b l q t sq at_ : Int} {off : Bool}  (h0 : RiT B w v0 ss) (h1 : RiU B w v1 ps) (h10 : RiU B w v10 lg) (h11 : RiU B w v11 dt) (hB : B ≤ w.heap.size) (i4 : InI b) (i5 : InI l) :
    Calls Try.prog 22 #[.agg #[v0, v1, .int .i64 fz, .bool off, .int .i64 b, .int .i64 l, .int .i64 q, .int .i64 t, .int .i64 sq, .int .i64 at_, v10, v11]] w (GivesB (.tuple #[.int .i64 (roV ss ps fz off b l q t sq at_ lg dt), .int .i64 (roC ss ps fz off b l q t sq at_ lg dt)]) w) := by
  have Hb0 : Hid (Below w.heap.size w (w.alloc (.cells #[v0, v1, .int .i64 fz, .bool off, .int .i64 b, .int .i64 l, .int .i64 q, .int .i64 t, .int .i64 sq, .int .i64 at_, v10, v11] 42))) := Lib.hid ((Below.refl _ w).alloc (Nat.le_refl _) _)
  have R0 : Hid ((w.alloc (.cells #[v0, v1, .int .i64 fz, .bool off, .int .i64 b, .int .i64 l, .int .i64 q, .int .i64 t, .int .i64 sq, .int .i64 at_, v10, v11] 42)).heap[w.heap.size]? = some (.cells #[v0, v1, .int .i64 fz, .bool off, .int .i64 b, .int .i64 l, .int .i64 q, .int .i64 t, .int .i64 sq, .int .i64 at_, v10, v11] 42 (0, 0))) := Lib.hid (heap_alloc_new w _)
  have Lt0 : Hid (w.heap.size < (w.alloc (.cells #[v0, v1, .int .i64 fz, .bool off, .int .i64 b, .int .i64 l, .int .i64 q, .int .i64 t, .int .i64 sq, .int .i64 at_, v10, v11] 42)).heap.size) := Lib.hid (by simp)
  have C1 := Lib.hid (l12Ok_any R0.out (h0.at hB Hb0.out) (h1.at hB Hb0.out) (h10.at hB Hb0.out) (h11.at hB Hb0.out) (Nat.le_refl _) i4 i5)
  have C2 : Hid (pgrOk ss ps fz off b l q t sq at_ lg dt = true → ∀ W, Below (w.alloc (.cells #[v0, v1, .int .i64 fz, .bool off, .int .i64 b, .int .i64 l, .int .i64 q, .int .i64 t, .int .i64 sq, .int .i64 at_, v10, v11] 42)).heap.size (w.alloc (.cells #[v0, v1, .int .i64 fz, .bool off, .int .i64 b, .int .i64 l, .int .i64 q, .int .i64 t, .int .i64 sq, .int .i64 at_, v10, v11] 42)) W → _) := Lib.hid (fun hok W hW => l13Root_any (w := W) ((hW.block _ Lt0.out).trans R0.out) (h0.at hB (Hb0.out.trans (hW.mono Hb0.out.size))) (h1.at hB (Hb0.out.trans (hW.mono Hb0.out.size))) (h10.at hB (Hb0.out.trans (hW.mono Hb0.out.size))) (h11.at hB (Hb0.out.trans (hW.mono Hb0.out.size))) (Nat.le_refl _) hok)
  have HV : Hid (roV ss ps fz off b l q t sq at_ lg dt = (if pgrOk ss ps fz off b l q t sq at_ lg dt then nV (arS ss ps l lg dt) 2 else 0) ∧ roC ss ps fz off b l q t sq at_ lg dt = (if pgrOk ss ps fz off b l q t sq at_ lg dt then 0 else 1)) := Lib.hid ⟨rfl, rfl⟩
  generalize roV ss ps fz off b l q t sq at_ lg dt = rv at *
  generalize roC ss ps fz off b l q t sq at_ lg dt = rc at *
  generalize nV (arS ss ps l lg dt) 2 = x at *
  generalize pgrOk ss ps fz off b l q t sq at_ lg dt = z at *
  clear h0 h1 h10 h11
  go_enter Try.func22, Try.ntmps22
  go_wp2_with fail
  generalize (w.alloc (.cells #[v0, v1, .int .i64 fz, .bool off, .int .i64 b, .int .i64 l, .int .i64 q, .int .i64 t, .int .i64 sq, .int .i64 at_, v10, v11] 42)) = w0 at *
  refine C1.out.mono ?_
  rintro e w1 ⟨rfl, g⟩
  have Hg1 := Lib.hid g
  have Hb1 := Lib.hid (Hb0.out.trans (g.mono Hb0.out.size)); clear g
  cases z
  · have Hf : Hid (rv = 0 ∧ rc = 1) := Lib.hid HV.out
    go_wp2_with fail
    go_ret2
    exact ⟨by rw [Hf.out.1, Hf.out.2]; rfl, Hb1.out⟩
  have Hf : Hid (rv = x ∧ rc = 0) := Lib.hid HV.out
  go_wp2_with fail
  refine (C2.out (by first | rfl | trivial) _ Hg1.out).mono ?_
  rintro e w2 ⟨rfl, g⟩
  have Hb2 := Lib.hid (Hb1.out.trans (g.mono Hb1.out.size)); clear g
  go_wp2_with fail
  go_ret2
  exact ⟨by rw [Hf.out.1, Hf.out.2]; rfl, Hb2.out⟩
set_option maxHeartbeats 4000000 in
set_option maxRecDepth 100000 in
theorem specIsAllocated_any {B : Nat} {w : World} {v0 v1 v10 v11 : Value} {ss : List ByteArray} {ps lg dt : List Pt} {fz b l q t sq at_ : Int} {off : Bool} {k : Int} (h0 : RiT B w v0 ss) (h1 : RiU B w v1 ps) (h10 : RiU B w v10 lg) (h11 : RiU B w v11 dt) (hk : (Lit.int .i64 k).wf = true) (hB : B ≤ w.heap.size) (i4 : InI b) (i5 : InI l) :
    Calls Try.prog 26 #[.agg #[v0, v1, .int .i64 fz, .bool off, .int .i64 b, .int .i64 l, .int .i64 q, .int .i64 t, .int .i64 sq, .int .i64 at_, v10, v11], .int .i64 k] w (GivesB (.bool (iaV ss ps fz off b l q t sq at_ lg dt k)) w) := by
  have Hb0 : Hid (Below w.heap.size w (w.alloc (.cells #[v0, v1, .int .i64 fz, .bool off, .int .i64 b, .int .i64 l, .int .i64 q, .int .i64 t, .int .i64 sq, .int .i64 at_, v10, v11] 42))) := Lib.hid ((Below.refl _ w).alloc (Nat.le_refl _) _)
  have R0 : Hid ((w.alloc (.cells #[v0, v1, .int .i64 fz, .bool off, .int .i64 b, .int .i64 l, .int .i64 q, .int .i64 t, .int .i64 sq, .int .i64 at_, v10, v11] 42)).heap[w.heap.size]? = some (.cells #[v0, v1, .int .i64 fz, .bool off, .int .i64 b, .int .i64 l, .int .i64 q, .int .i64 t, .int .i64 sq, .int .i64 at_, v10, v11] 42 (0, 0))) := Lib.hid (heap_alloc_new w _)
  have Lt0 : Hid (w.heap.size < (w.alloc (.cells #[v0, v1, .int .i64 fz, .bool off, .int .i64 b, .int .i64 l, .int .i64 q, .int .i64 t, .int .i64 sq, .int .i64 at_, v10, v11] 42)).heap.size) := Lib.hid (by simp)
  have C1 := Lib.hid (l12Ok_any R0.out (h0.at hB Hb0.out) (h1.at hB Hb0.out) (h10.at hB Hb0.out) (h11.at hB Hb0.out) (Nat.le_refl _) i4 i5)
  have hk2 := i64_bounds hk
  have C2 : Hid (pgrOk ss ps fz off b l q t sq at_ lg dt = true → ∀ W, Below (w.alloc (.cells #[v0, v1, .int .i64 fz, .bool off, .int .i64 b, .int .i64 l, .int .i64 q, .int .i64 t, .int .i64 sq, .int .i64 at_, v10, v11] 42)).heap.size (w.alloc (.cells #[v0, v1, .int .i64 fz, .bool off, .int .i64 b, .int .i64 l, .int .i64 q, .int .i64 t, .int .i64 sq, .int .i64 at_, v10, v11] 42)) W → _) := Lib.hid (fun hok W hW => l13Data_any (w := W) k 1 ((hW.block _ Lt0.out).trans R0.out) (pgrOk_t hok).1 (by unfold InI; omega))
  have C3 : Hid (pgrOk ss ps fz off b l q t sq at_ lg dt = true → ∀ W, Below (w.alloc (.cells #[v0, v1, .int .i64 fz, .bool off, .int .i64 b, .int .i64 l, .int .i64 q, .int .i64 t, .int .i64 sq, .int .i64 at_, v10, v11] 42)).heap.size (w.alloc (.cells #[v0, v1, .int .i64 fz, .bool off, .int .i64 b, .int .i64 l, .int .i64 q, .int .i64 t, .int .i64 sq, .int .i64 at_, v10, v11] 42)) W → _) := Lib.hid (fun hok W hW => l13Area_any (w := W) ((hW.block _ Lt0.out).trans R0.out) (h0.at hB (Hb0.out.trans (hW.mono Hb0.out.size))) (h1.at hB (Hb0.out.trans (hW.mono Hb0.out.size))) (h10.at hB (Hb0.out.trans (hW.mono Hb0.out.size))) (h11.at hB (Hb0.out.trans (hW.mono Hb0.out.size))) (Nat.le_refl _) hok)
  have HV : Hid (iaV ss ps fz off b l q t sq at_ lg dt k = (pgrOk ss ps fz off b l q t sq at_ lg dt && (dtB b l k 1 && aB (arS ss ps l lg dt) k.toNat))) := Lib.hid rfl
  have HK : Hid (pgrOk ss ps fz off b l q t sq at_ lg dt = true → dtB b l k 1 = true → (0 ≤ k ∧ k < 256) ∧ (arS ss ps l lg dt).size = 64) := Lib.hid (fun hok hd => by
    have hb := pgrOk_b hok
    have := (dtB_iff (by omega) (by omega)).1 hd
    exact ⟨by omega, arS_64 hok⟩)
  generalize iaV ss ps fz off b l q t sq at_ lg dt k = r at *
  generalize dtB b l k 1 = y at *
  generalize pgrOk ss ps fz off b l q t sq at_ lg dt = z at *
  clear h0 h1 h10 h11 hk hk2
  go_enter Try.func26, Try.ntmps26
  go_wp2_with fail
  generalize (w.alloc (.cells #[v0, v1, .int .i64 fz, .bool off, .int .i64 b, .int .i64 l, .int .i64 q, .int .i64 t, .int .i64 sq, .int .i64 at_, v10, v11] 42)) = w0 at *
  refine C1.out.mono ?_
  rintro e w1 ⟨rfl, g⟩
  have Hg1 := Lib.hid g
  have Hb1 := Lib.hid (Hb0.out.trans (g.mono Hb0.out.size)); clear g
  cases z
  · have Hf : Hid (r = false) := Lib.hid (by rw [HV.out]; rfl)
    go_wp2_with fail
    go_ret
    exact ⟨by rw [Hf.out]; rfl, Hb1.out⟩
  go_wp2_with fail
  refine (C2.out (by first | rfl | trivial) _ Hg1.out).mono ?_
  rintro e w2 ⟨rfl, g⟩
  have Hg2 := Lib.hid (Hg1.out.trans (g.mono Hg1.out.size))
  have Hb2 := Lib.hid (Hb1.out.trans (g.mono Hb1.out.size)); clear g
  cases y
  · have Hf : Hid (r = false) := Lib.hid (by rw [HV.out]; rfl)
    go_wp2_with fail
    go_ret
    exact ⟨by rw [Hf.out]; rfl, Hb2.out⟩
  have hkk := HK.out (by first | rfl | trivial) (by first | rfl | trivial)
  obtain ⟨n, rfl⟩ : ∃ n : Nat, k = (n : Int) := ⟨k.toNat, by omega⟩
  have Hf : Hid (r = aB (arS ss ps l lg dt) n) := Lib.hid (by rw [HV.out]; simp)
  have C4 := Lib.hid (fun W => l13Bit_any (arS ss ps l lg dt) n hkk.2 (by omega) W)
  clear hkk
  generalize aB (arS ss ps l lg dt) n = y at *
  generalize arS ss ps l lg dt = ar at *
  go_wp2_with fail
  refine (C3.out (by first | rfl | trivial) _ Hg2.out).mono ?_
  rintro e w3 ⟨rfl, g⟩
  have Hb3 := Lib.hid (Hb2.out.trans (g.mono Hb2.out.size)); clear g
  go_wp2_with ((go_at_call 92; refine (C4.out _).mono ?_; rintro e w' ⟨rfl, rfl⟩))
  go_ret
  exact ⟨by rw [Hf.out]; rfl, Hb3.out⟩
end Go.Proofs.Ytlickjmdlooapaa
namespace Go.Proofs.Ytlickjmdlooapaa
open Go.RowKit
set_option linter.unusedVariables false
theorem by_conv {W : World} {g cap : Nat} {s : ByteArray} (hz : s.size = 64) (h : ByA W g s) : (convert 119 9 (.slice (some ⟨g, 0, none⟩) 64 cap)).run Try.prog W = .ok (.string s) W := by
  have hb : Lib.Bytes W g 0 s := fun i hi => by
    rw [Nat.zero_add, h i hi, getD_byte s i hi]
  have := Lib.run_convert_whole (P := Try.prog) W 119 5 9 Try.underlying119 Try.underlying5 Try.underlying9 g 0 s hb cap
  rw [hz] at this
  exact this
set_option maxHeartbeats 4000000 in
set_option maxRecDepth 100000 in
theorem root_any {w : World} {g cap : Nat} {ar : ByteArray} {b l q t : Int} (hz : ar.size = 64) (hg : g < w.heap.size) (hA : ByA w g ar) :
    Calls Try.prog 89 #[.agg #[.int .i64 b, .int .i64 l, .int .i64 q, .int .i64 t, .slice (some ⟨g, 0, none⟩) 64 cap, .slice (some ⟨g, 4, none⟩) 32 32]] w (GivesB (.int .i64 (nV ar 2)) w) := by
  have Hb0 : Hid (Below w.heap.size w (w.alloc (.cells #[.int .i64 b, .int .i64 l, .int .i64 q, .int .i64 t, .slice (some ⟨g, 0, none⟩) 64 cap, .slice (some ⟨g, 4, none⟩) 32 32] 122))) := Lib.hid ((Below.refl _ w).alloc (Nat.le_refl _) _)
  have hcv := by_conv (cap := cap) hz (hA.bel hg Hb0.out)
  have H1 : Hid (FrA ((w.alloc (.cells #[.int .i64 b, .int .i64 l, .int .i64 q, .int .i64 t, .slice (some ⟨g, 0, none⟩) 64 cap, .slice (some ⟨g, 4, none⟩) 32 32] 122)).alloc (.cells #[.string ar] 219)) (w.heap.size + 1) ar) := Lib.hid (by unfold FrA; exact heap_alloc2_new w _ _)
  have HB1 : Hid (Below w.heap.size w ((w.alloc (.cells #[.int .i64 b, .int .i64 l, .int .i64 q, .int .i64 t, .slice (some ⟨g, 0, none⟩) 64 cap, .slice (some ⟨g, 4, none⟩) 32 32] 122)).alloc (.cells #[.string ar] 219))) := Lib.hid (Hb0.out.alloc Hb0.out.size _)
  have C1 := Lib.hid (frNumber_any (m := 2) (by omega) (by omega) (by omega) H1.out)
  generalize nV ar 2 = x at *
  clear hA H1
  go_enter Try.func89, Try.ntmps89
  go_wp2_with fail
  refine C1.out.mono ?_
  rintro e w1 ⟨rfl, -, -, -, g1⟩
  have Hb1 := Lib.hid (HB1.out.trans (g1.mono (by omega))); clear g1
  go_wp2_with fail
  go_ret
  exact ⟨rfl, Hb1.out⟩
set_option maxHeartbeats 4000000 in
set_option maxRecDepth 100000 in
theorem isTaken_any {w : World} {g cap : Nat} {ar : ByteArray} {b l q t k : Int} (hs : supOk b l q t = true) (hk : InI k) (hz : ar.size = 64) (hg : g < w.heap.size) (hA : ByA w g ar) :
    Calls Try.prog 94 #[.agg #[.int .i64 b, .int .i64 l, .int .i64 q, .int .i64 t, .slice (some ⟨g, 0, none⟩) 64 cap, .slice (some ⟨g, 4, none⟩) 32 32], .int .i64 k] w (GivesB (.bool (dtB b l k 1 && aB ar k.toNat)) w) := by
  have hb := sup_b hs
  have Hb0 : Hid (Below w.heap.size w (w.alloc (.cells #[.int .i64 b, .int .i64 l, .int .i64 q, .int .i64 t, .slice (some ⟨g, 0, none⟩) 64 cap, .slice (some ⟨g, 4, none⟩) 32 32] 122))) := Lib.hid ((Below.refl _ w).alloc (Nat.le_refl _) _)
  have R0 : Hid ((w.alloc (.cells #[.int .i64 b, .int .i64 l, .int .i64 q, .int .i64 t, .slice (some ⟨g, 0, none⟩) 64 cap, .slice (some ⟨g, 4, none⟩) 32 32] 122)).heap[w.heap.size]? = some (.cells #[.int .i64 b, .int .i64 l, .int .i64 q, .int .i64 t, .slice (some ⟨g, 0, none⟩) 64 cap, .slice (some ⟨g, 4, none⟩) 32 32] 122 (0, 0))) := Lib.hid (heap_alloc_new w _)
  have Lt0 : Hid (w.heap.size < (w.alloc (.cells #[.int .i64 b, .int .i64 l, .int .i64 q, .int .i64 t, .slice (some ⟨g, 0, none⟩) 64 cap, .slice (some ⟨g, 4, none⟩) 32 32] 122)).heap.size) := Lib.hid (by simp)
  have HA : Hid (∀ W, Below w.heap.size w W → ByA W g ar) := Lib.hid (fun W hW => hA.bel hg hW)
  have Hld := Lib.hid (run_load_cells (P := Try.prog) (w.alloc (.cells #[.int .i64 b, .int .i64 l, .int .i64 q, .int .i64 t, .slice (some ⟨g, 0, none⟩) 64 cap, .slice (some ⟨g, 4, none⟩) 32 32] 122)) w.heap.size 0 39 _ [.int .i64 b, .int .i64 l, .int .i64 q, .int .i64 t] (row_part R0.out (by intro j u hj; rcases j with _ | _ | _ | _ | j; all_goals first | exact hj | simp at hj)) Try.underlying39 rfl)
  have C1 := Lib.hid (fun W => hasRun_any (b := b) (l := l) (q := q) (t := t) k 1 W hs (by unfold InI; omega))
  have HK : Hid (dtB b l k 1 = true → 0 ≤ k ∧ k < 256) := Lib.hid (fun hd => by
    have := (dtB_iff (by omega) (by omega)).1 hd
    omega)
  generalize dtB b l k 1 = y at *
  clear hA hb hk
  go_enter Try.func94, Try.ntmps94
  go_wp2_with (refine wpList_load_agg rfl 39 (.tmp 5) rfl _ rfl _ Hld.out ?_)
  clear Hld
  generalize (w.alloc (.cells #[.int .i64 b, .int .i64 l, .int .i64 q, .int .i64 t, .slice (some ⟨g, 0, none⟩) 64 cap, .slice (some ⟨g, 4, none⟩) 32 32] 122)) = w0 at *
  refine (C1.out _).mono ?_
  rintro e w1 ⟨rfl, g1⟩
  have Hb1 := Lib.hid (Hb0.out.trans (g1.mono Hb0.out.size))
  have R1 := Lib.hid ((g1.block _ Lt0.out).trans R0.out)
  clear g1
  cases y
  · go_wp2_with fail
    go_ret
    exact ⟨by simp, Hb1.out⟩
  have hkk := HK.out (by first | rfl | trivial)
  obtain ⟨n, rfl⟩ : ∃ n : Nat, k = (n : Int) := ⟨k.toNat, by omega⟩
  have Hf : Hid ((true && aB ar (n : Int).toNat) = aB ar n) := Lib.hid (by simp)
  have C2 := Lib.hid (has_any hz (by omega : n < 256) (HA.out _ Hb1.out))
  generalize aB ar n = y at *
  have q5 : w1.cell? ⟨w.heap.size, 5, none⟩ = some (.slice (some ⟨g, 4, none⟩) 32 32) := by rw [cell_of_row _ _ _ _ _ _ R1.out]; rfl
  go_wp2_with ((go_at_call 171; refine C2.out.mono ?_; rintro e w' ⟨rfl, rfl⟩))
  go_ret
  exact ⟨by rw [Hf.out]; rfl, Hb1.out⟩
set_option maxHeartbeats 4000000 in
set_option maxRecDepth 100000 in
theorem implRootOf_any {B : Nat} {w : World} {v0 v1 v10 v11 : Value} {ss : List ByteArray} {ps lg dt : List Pt} {fz b l q t sq at_ : Int} {off : Bool} (h0 : RiT B w v0 ss) (h1 : RiU B w v1 ps) (h10 : RiU B w v10 lg) (h11 : RiU B w v11 dt) (hB : B ≤ w.heap.size) (i4 : InI b) (i5 : InI l) :
    Calls Try.prog 24 #[.agg #[v0, v1, .int .i64 fz, .bool off, .int .i64 b, .int .i64 l, .int .i64 q, .int .i64 t, .int .i64 sq, .int .i64 at_, v10, v11]] w (GivesB (.tuple #[.int .i64 (roV ss ps fz off b l q t sq at_ lg dt), .int .i64 (roC ss ps fz off b l q t sq at_ lg dt)]) w) := by
  have H0 := Lib.hid h0; obtain ⟨A0, c0, rfl, l0, m0, -⟩ := h0
  have H1 := Lib.hid h1; obtain ⟨A1, c1, rfl, l1, m1, -⟩ := h1
  have H10 := Lib.hid h10; obtain ⟨A10, c10, rfl, l10, m10, -⟩ := h10
  have H11 := Lib.hid h11; obtain ⟨A11, c11, rfl, l11, m11, -⟩ := h11
  unfold maxLen at m0 m1 m10 m11
  have Hb0 : Hid (Below w.heap.size w (w.alloc (.cells #[.slice A0 ss.length c0, .slice A1 ps.length c1, .int .i64 fz, .bool off, .int .i64 b, .int .i64 l, .int .i64 q, .int .i64 t, .int .i64 sq, .int .i64 at_, .slice A10 lg.length c10, .slice A11 dt.length c11] 42))) := Lib.hid ((Below.refl _ w).alloc (Nat.le_refl _) _)
  have R0 : Hid ((w.alloc (.cells #[.slice A0 ss.length c0, .slice A1 ps.length c1, .int .i64 fz, .bool off, .int .i64 b, .int .i64 l, .int .i64 q, .int .i64 t, .int .i64 sq, .int .i64 at_, .slice A10 lg.length c10, .slice A11 dt.length c11] 42)).heap[w.heap.size]? = some (.cells #[.slice A0 ss.length c0, .slice A1 ps.length c1, .int .i64 fz, .bool off, .int .i64 b, .int .i64 l, .int .i64 q, .int .i64 t, .int .i64 sq, .int .i64 at_, .slice A10 lg.length c10, .slice A11 dt.length c11] 42 (0, 0))) := Lib.hid (heap_alloc_new w _)
  have Lt0 : Hid (w.heap.size < (w.alloc (.cells #[.slice A0 ss.length c0, .slice A1 ps.length c1, .int .i64 fz, .bool off, .int .i64 b, .int .i64 l, .int .i64 q, .int .i64 t, .int .i64 sq, .int .i64 at_, .slice A10 lg.length c10, .slice A11 dt.length c11] 42)).heap.size) := Lib.hid (by simp)
  have C1 := Lib.hid (implValidPager_any (fz := fz) (off := off) (q := q) (t := t) (sq := sq) (at_ := at_) (H0.out.at hB Hb0.out) (H1.out.at hB Hb0.out) (H10.out.at hB Hb0.out) (H11.out.at hB Hb0.out) (Nat.le_refl _) i4 i5)
  have C2 : Hid (pgrOk ss ps fz off b l q t sq at_ lg dt = true → ∀ W, Below w.heap.size w W → _) := Lib.hid (fun hok W hW => spaceOf_any (w := W) (fz := fz) (off := off) (q := q) (t := t) (sq := sq) (at_ := at_) (H0.out.at hB hW) (H1.out.at hB hW) (H10.out.at hB hW) (H11.out.at hB hW) (Nat.le_refl _) hok)
  have HZ : Hid (pgrOk ss ps fz off b l q t sq at_ lg dt = true → (arS ss ps l lg dt).size = 64 ∧ supOk b l q t = true) := Lib.hid (fun hok => ⟨arS_64 hok, (pgrOk_t hok).1⟩)
  have HV : Hid (roV ss ps fz off b l q t sq at_ lg dt = (if pgrOk ss ps fz off b l q t sq at_ lg dt then nV (arS ss ps l lg dt) 2 else 0) ∧ roC ss ps fz off b l q t sq at_ lg dt = (if pgrOk ss ps fz off b l q t sq at_ lg dt then 0 else 1)) := Lib.hid ⟨rfl, rfl⟩
  generalize roV ss ps fz off b l q t sq at_ lg dt = rv at *
  generalize roC ss ps fz off b l q t sq at_ lg dt = rc at *
  generalize arS ss ps l lg dt = ar at *
  generalize pgrOk ss ps fz off b l q t sq at_ lg dt = z at *
  go_enter Try.func24, Try.ntmps24
  go_wp2_with (refine wpList_load_row rfl 42 (.tmp 1) rfl _ rfl 42 _ (0, 0) _ R0.out Try.underlying42 rfl (by kernel_rfl) ?_)
  generalize (w.alloc (.cells #[.slice A0 ss.length c0, .slice A1 ps.length c1, .int .i64 fz, .bool off, .int .i64 b, .int .i64 l, .int .i64 q, .int .i64 t, .int .i64 sq, .int .i64 at_, .slice A10 lg.length c10, .slice A11 dt.length c11] 42)) = w0 at *
  refine C1.out.mono ?_
  rintro e w1 ⟨rfl, g⟩
  have Hb1 := Lib.hid (Hb0.out.trans (g.mono Hb0.out.size))
  have R1 := Lib.hid ((g.block _ Lt0.out).trans R0.out)
  clear g
  cases z
  · have Hf : Hid (rv = 0 ∧ rc = 1) := Lib.hid HV.out
    go_wp2_with fail
    go_ret2
    exact ⟨by rw [Hf.out.1, Hf.out.2]; rfl, Hb1.out⟩
  have Hf : Hid (rv = nV ar 2 ∧ rc = 0) := Lib.hid HV.out
  have hzz := HZ.out (by first | rfl | trivial)
  go_wp2_with (refine wpList_load_row rfl 42 (.tmp 1) rfl _ rfl 42 _ (0, 0) _ R1.out Try.underlying42 rfl (by kernel_rfl) ?_)
  refine (C2.out (by first | rfl | trivial) _ Hb1.out).mono ?_
  rintro e w2 ⟨g, cap, rfl, hc1, hc2, hg1, hg2, hby, gg⟩
  have Hb2 := Lib.hid (Hb1.out.trans (gg.mono Hb1.out.size)); clear gg
  have C3 := Lib.hid (root_any (cap := cap) (b := b) (l := l) (q := q) (t := t) hzz.1 hg2 hby)
  clear hby hc1 hc2 hg1 hg2 hzz
  generalize nV ar 2 = x at *
  go_wp2_with fail
  refine C3.out.mono ?_
  rintro e w3 ⟨rfl, gg⟩
  have Hb3 := Lib.hid (Hb2.out.trans (gg.mono Hb2.out.size)); clear gg
  go_wp2_with fail
  go_ret2
  exact ⟨by rw [Hf.out.1, Hf.out.2]; rfl, Hb3.out⟩
set_option maxHeartbeats 4000000 in
set_option maxRecDepth 100000 in
theorem implIsAllocated_any {B : Nat} {w : World} {v0 v1 v10 v11 : Value} {ss : List ByteArray} {ps lg dt : List Pt} {fz b l q t sq at_ : Int} {off : Bool} {k : Int} (h0 : RiT B w v0 ss) (h1 : RiU B w v1 ps) (h10 : RiU B w v10 lg) (h11 : RiU B w v11 dt) (hk : (Lit.int .i64 k).wf = true) (hB : B ≤ w.heap.size) (i4 : InI b) (i5 : InI l) :
    Calls Try.prog 27 #[.agg #[v0, v1, .int .i64 fz, .bool off, .int .i64 b, .int .i64 l, .int .i64 q, .int .i64 t, .int .i64 sq, .int .i64 at_, v10, v11], .int .i64 k] w (GivesB (.bool (iaV ss ps fz off b l q t sq at_ lg dt k)) w) := by
  have hk2 := i64_bounds hk
  have H0 := Lib.hid h0; obtain ⟨A0, c0, rfl, l0, m0, -⟩ := h0
  have H1 := Lib.hid h1; obtain ⟨A1, c1, rfl, l1, m1, -⟩ := h1
  have H10 := Lib.hid h10; obtain ⟨A10, c10, rfl, l10, m10, -⟩ := h10
  have H11 := Lib.hid h11; obtain ⟨A11, c11, rfl, l11, m11, -⟩ := h11
  unfold maxLen at m0 m1 m10 m11
  have Hb0 : Hid (Below w.heap.size w (w.alloc (.cells #[.slice A0 ss.length c0, .slice A1 ps.length c1, .int .i64 fz, .bool off, .int .i64 b, .int .i64 l, .int .i64 q, .int .i64 t, .int .i64 sq, .int .i64 at_, .slice A10 lg.length c10, .slice A11 dt.length c11] 42))) := Lib.hid ((Below.refl _ w).alloc (Nat.le_refl _) _)
  have R0 : Hid ((w.alloc (.cells #[.slice A0 ss.length c0, .slice A1 ps.length c1, .int .i64 fz, .bool off, .int .i64 b, .int .i64 l, .int .i64 q, .int .i64 t, .int .i64 sq, .int .i64 at_, .slice A10 lg.length c10, .slice A11 dt.length c11] 42)).heap[w.heap.size]? = some (.cells #[.slice A0 ss.length c0, .slice A1 ps.length c1, .int .i64 fz, .bool off, .int .i64 b, .int .i64 l, .int .i64 q, .int .i64 t, .int .i64 sq, .int .i64 at_, .slice A10 lg.length c10, .slice A11 dt.length c11] 42 (0, 0))) := Lib.hid (heap_alloc_new w _)
  have Lt0 : Hid (w.heap.size < (w.alloc (.cells #[.slice A0 ss.length c0, .slice A1 ps.length c1, .int .i64 fz, .bool off, .int .i64 b, .int .i64 l, .int .i64 q, .int .i64 t, .int .i64 sq, .int .i64 at_, .slice A10 lg.length c10, .slice A11 dt.length c11] 42)).heap.size) := Lib.hid (by simp)
  have C1 := Lib.hid (implValidPager_any (fz := fz) (off := off) (q := q) (t := t) (sq := sq) (at_ := at_) (H0.out.at hB Hb0.out) (H1.out.at hB Hb0.out) (H10.out.at hB Hb0.out) (H11.out.at hB Hb0.out) (Nat.le_refl _) i4 i5)
  have C2 : Hid (pgrOk ss ps fz off b l q t sq at_ lg dt = true → ∀ W, Below w.heap.size w W → _) := Lib.hid (fun hok W hW => spaceOf_any (w := W) (fz := fz) (off := off) (q := q) (t := t) (sq := sq) (at_ := at_) (H0.out.at hB hW) (H1.out.at hB hW) (H10.out.at hB hW) (H11.out.at hB hW) (Nat.le_refl _) hok)
  have HZ : Hid (pgrOk ss ps fz off b l q t sq at_ lg dt = true → (arS ss ps l lg dt).size = 64 ∧ supOk b l q t = true) := Lib.hid (fun hok => ⟨arS_64 hok, (pgrOk_t hok).1⟩)
  have HV : Hid (iaV ss ps fz off b l q t sq at_ lg dt k = (pgrOk ss ps fz off b l q t sq at_ lg dt && (dtB b l k 1 && aB (arS ss ps l lg dt) k.toNat))) := Lib.hid rfl
  generalize iaV ss ps fz off b l q t sq at_ lg dt k = r at *
  generalize arS ss ps l lg dt = ar at *
  generalize pgrOk ss ps fz off b l q t sq at_ lg dt = z at *
  have hkI : InI k := by unfold InI; omega
  clear hk hk2
  go_enter Try.func27, Try.ntmps27
  go_wp2_with (refine wpList_load_row rfl 42 (.tmp 2) rfl _ rfl 42 _ (0, 0) _ R0.out Try.underlying42 rfl (by kernel_rfl) ?_)
  generalize (w.alloc (.cells #[.slice A0 ss.length c0, .slice A1 ps.length c1, .int .i64 fz, .bool off, .int .i64 b, .int .i64 l, .int .i64 q, .int .i64 t, .int .i64 sq, .int .i64 at_, .slice A10 lg.length c10, .slice A11 dt.length c11] 42)) = w0 at *
  refine C1.out.mono ?_
  rintro e w1 ⟨rfl, g⟩
  have Hb1 := Lib.hid (Hb0.out.trans (g.mono Hb0.out.size))
  have R1 := Lib.hid ((g.block _ Lt0.out).trans R0.out)
  clear g
  cases z
  · have Hf : Hid (r = false) := Lib.hid (by rw [HV.out]; rfl)
    go_wp2_with fail
    go_ret
    exact ⟨by rw [Hf.out]; rfl, Hb1.out⟩
  have Hf : Hid (r = (dtB b l k 1 && aB ar k.toNat)) := Lib.hid (by rw [HV.out]; rfl)
  have hzz := HZ.out (by first | rfl | trivial)
  have q0 : w1.cell? ⟨w.heap.size, 0, none⟩ = some (.slice A0 ss.length c0) := by rw [cell_of_row _ _ _ _ _ _ R1.out]; rfl
  have q1 : w1.cell? ⟨w.heap.size, 1, none⟩ = some (.slice A1 ps.length c1) := by rw [cell_of_row _ _ _ _ _ _ R1.out]; rfl
  have q2 : w1.cell? ⟨w.heap.size, 2, none⟩ = some (.int .i64 fz) := by rw [cell_of_row _ _ _ _ _ _ R1.out]; rfl
  have q3 : w1.cell? ⟨w.heap.size, 3, none⟩ = some (.bool off) := by rw [cell_of_row _ _ _ _ _ _ R1.out]; rfl
  have q4 : w1.cell? ⟨w.heap.size, 4, none⟩ = some (.int .i64 b) := by rw [cell_of_row _ _ _ _ _ _ R1.out]; rfl
  have q5 : w1.cell? ⟨w.heap.size, 5, none⟩ = some (.int .i64 l) := by rw [cell_of_row _ _ _ _ _ _ R1.out]; rfl
  have q6 : w1.cell? ⟨w.heap.size, 6, none⟩ = some (.int .i64 q) := by rw [cell_of_row _ _ _ _ _ _ R1.out]; rfl
  have q7 : w1.cell? ⟨w.heap.size, 7, none⟩ = some (.int .i64 t) := by rw [cell_of_row _ _ _ _ _ _ R1.out]; rfl
  have q8 : w1.cell? ⟨w.heap.size, 8, none⟩ = some (.int .i64 sq) := by rw [cell_of_row _ _ _ _ _ _ R1.out]; rfl
  have q9 : w1.cell? ⟨w.heap.size, 9, none⟩ = some (.int .i64 at_) := by rw [cell_of_row _ _ _ _ _ _ R1.out]; rfl
  have q10 : w1.cell? ⟨w.heap.size, 10, none⟩ = some (.slice A10 lg.length c10) := by rw [cell_of_row _ _ _ _ _ _ R1.out]; rfl
  have q11 : w1.cell? ⟨w.heap.size, 11, none⟩ = some (.slice A11 dt.length c11) := by rw [cell_of_row _ _ _ _ _ _ R1.out]; rfl
  go_wp2_with fail
  clear q0 q1 q2 q3 q4 q5 q6 q7 q8 q9 q10 q11
  refine (C2.out (by first | rfl | trivial) _ Hb1.out).mono ?_
  rintro e w2 ⟨g, cap, rfl, hc1, hc2, hg1, hg2, hby, gg⟩
  have Hb2 := Lib.hid (Hb1.out.trans (gg.mono Hb1.out.size)); clear gg
  have C3 := Lib.hid (isTaken_any (cap := cap) (k := k) hzz.2 hkI hzz.1 hg2 hby)
  clear hby hc1 hc2 hg1 hg2 hzz hkI
  generalize (dtB b l k 1 && aB ar k.toNat) = y at *
  go_wp2_with fail
  refine C3.out.mono ?_
  rintro e w3 ⟨rfl, gg⟩
  have Hb3 := Lib.hid (Hb2.out.trans (gg.mono Hb2.out.size)); clear gg
  go_wp2_with fail
  go_ret
  exact ⟨by rw [Hf.out]; rfl, Hb3.out⟩
end Go.Proofs.Ytlickjmdlooapaa
namespace Go.Proofs.Ytlickjmdlooapaa
open Go.RowKit
set_option linter.unusedVariables false
set_option maxHeartbeats 1000000 in
theorem specBlocksFor_q (n : Int) (w : World) : Calls Try.prog 19 #[.int .i64 n] w (Quiet (.int .i64 (bkF n)) w) := by
  cases hi : inB n 0 65536
  · have Hf : Hid (bkF n = 0) := Lib.hid (by simp [bkF, hi])
    have Hi := Lib.hid hi; clear hi
    go_enter Try.func19, Try.ntmps19
    go_wp2_with ((go_at_call 80; refine (l00In_no _ _ _ _ Hi.out).mono ?_; rintro e w' ⟨rfl, rfl⟩))
    go_ret
    exact ⟨by rw [Hf.out]; rfl, rfl⟩
  · have hb := inB_iff.1 hi
    have Hf : Hid (max 1 ((n + 64 - 1) / 64) = bkF n) := Lib.hid (by simp only [bkF, hi, if_true]; unfold bkN; split <;> omega)
    have Hi := Lib.hid hi; clear hi
    generalize bkF n = r at *
    go_enter Try.func19, Try.ntmps19
    go_wp2_with (first | (go_at_call 80; refine (l00In_yes _ _ _ _ Hi.out).mono ?_; rintro e w' ⟨rfl, rfl⟩) | (go_at_call 81; refine (l00Max_one _ _ Hf.out _).mono ?_; rintro e w' ⟨rfl, rfl⟩))
    go_ret
    exact ⟨rfl, rfl⟩
theorem bkF_b (n : Int) : (bkF n = 0) ∨ (0 ≤ n ∧ n ≤ 65536 ∧ 1 ≤ bkF n ∧ bkF n ≤ 1024 ∧ n ≤ 64 * bkF n) := by
  cases hi : inB n 0 65536
  · left; simp [bkF, hi]
  · right
    have hb := inB_iff.1 hi
    have e : bkF n = bkN n := by simp [bkF, hi]
    have := bkN_b hb.1 hb.2
    rw [e]
    omega
/-- The first pages from a block on. -/
def rrT (ss : List ByteArray) (ps lg dt : List Pt) (x : Int) : Nat → ByteArray
  | 0 => ⟨#[]⟩
  | j + 1 => rrT ss ps lg dt x j ++ gtS ss ps lg dt (x + (j : Int))
theorem rrT_size {ss : List ByteArray} {ps lg dt : List Pt} {fz b l q t sq at_ x : Int} {off : Bool} {n : Nat} (hok : pgrOk ss ps fz off b l q t sq at_ lg dt = true) (h0 : 0 ≤ x) (hx : x + (n : Int) ≤ b) : ∀ j, j ≤ n → (rrT ss ps lg dt x j).size = 64 * j
  | 0, _ => rfl
  | j + 1, hj => by
    have hb := (pgrOk_t hok).2
    rw [rrT, ByteArray.size_append, rrT_size hok h0 hx j (by omega), gtS_64 hok (by omega) (by omega)]
    omega
def rrOk (ss : List ByteArray) (ps : List Pt) (fz : Int) (off : Bool) (b l q t sq at_ : Int) (lg dt : List Pt) (x z : Int) : Bool := pgrOk ss ps fz off b l q t sq at_ lg dt && dtB b l x (bkF z)
def rrV (ss : List ByteArray) (ps : List Pt) (fz : Int) (off : Bool) (b l q t sq at_ : Int) (lg dt : List Pt) (x z : Int) : ByteArray := if rrOk ss ps fz off b l q t sq at_ lg dt x z then (rrT ss ps lg dt x (bkF z).toNat).extract 0 z.toNat else ⟨#[]⟩
def rrC (ss : List ByteArray) (ps : List Pt) (fz : Int) (off : Bool) (b l q t sq at_ : Int) (lg dt : List Pt) (x z : Int) : Int := if pgrOk ss ps fz off b l q t sq at_ lg dt then (if dtB b l x (bkF z) then 0 else 2) else 1
theorem wpList_appS {ops : Array Oper} {rest : List Oper} {o : Oper} {a : Act} {Q : Exit → Act → World → Prop} {W : World} (hgd : o.guard = none) (s x : Operand)
    (ho : o.op = .call { callee := .builtin .append, args := #[s, x], argTypes := #[119, 9] }) (B : Nat) (v : Value) (l : List UInt8) (hown : OwnB W B v l) (hs : a.eval s = v) (t : ByteArray)
    (hx : a.eval x = .string t) (hl : l.length + t.size ≤ 70368744177664) (hB : B ≤ W.heap.size)
    (h : ∀ v' w', OwnB w' B v' (l ++ t.data.toList) → Below B W w' → wpList Try.prog ops Q rest (a.put o.dst v') w') :
    wpList Try.prog ops Q (o :: rest) a W := by
  obtain ⟨i0, hi, hz0, hz1, hz2⟩ := info_parts Try.infoB
  refine Lib.wpList_append_own_string _ hgd s x 119 9 ho B 5 i0 Try.underlying119 Try.underlying9 hi hz0 hz1 hz2 v l.length (l.map bv) hs hown t hx (by unfold maxLen; omega) (by omega) hB ?_
  intro v' w' ho' hg _
  refine h v' w' ?_ ((Below.refl B W).grown hg hB (fun k hk => (World.ownsRow.lt hown k hk).1))
  unfold OwnB
  have e1 : (l ++ t.data.toList).length = l.length + t.size := by simp
  have e2 : (l ++ t.data.toList).map bv = l.map bv ++ Lib.strCells t := by rw [List.map_append]; rfl
  rw [e1, e2]
  exact ho'
/-- A part of a row of bytes, as a string. -/
theorem conv_part {w : World} {B g cap : Nat} {l : List UInt8} {m : Nat} (hm : m ≤ l.length) (h : OwnB w B (.slice (some ⟨g, 0, none⟩) l.length cap) l) : (convert 119 9 (.slice (some ⟨g, 0, none⟩) m cap)).run Try.prog w = .ok (.string ⟨(l.take m).toArray⟩) w := by
  have h1 := run_convert_bytes_back (P := Try.prog) w 119 9 5 ⟨g, 0, none⟩ cap (l.take m) Try.underlying119 Try.underlying5 Try.underlying9 (fun j hj => by
    have hj2 : j < l.length := by simp at hj; omega
    have := World.ownsRow.cells (g := g) h rfl j (bv l[j]) (by simp [hj2])
    simpa [bv] using this)
  have e : (l.take m).length = m := by simp; omega
  rw [e] at h1
  exact h1
set_option maxHeartbeats 4000000 in
set_option maxRecDepth 100000 in
theorem l13Read_any {B g : Nat} {w : World} {v0 v1 v10 v11 : Value} {ss : List ByteArray} {ps lg dt : List Pt} {fz b l q t sq at_ : Int} {off : Bool} {x : Int} {n m : Nat} (hg : w.heap[g]? = some (.cells #[v0, v1, .int .i64 fz, .bool off, .int .i64 b, .int .i64 l, .int .i64 q, .int .i64 t, .int .i64 sq, .int .i64 at_, v10, v11] 42 (0, 0))) (h0 : RiT B w v0 ss) (h1 : RiU B w v1 ps) (h10 : RiU B w v10 lg) (h11 : RiU B w v11 dt) (hB : B ≤ w.heap.size) (hok : pgrOk ss ps fz off b l q t sq at_ lg dt = true) (hx0 : 0 ≤ x) (hxn : x + (n : Int) ≤ b) (hbk : bkF (m : Int) = (n : Int)) (hm : m ≤ 64 * n) (hn1 : 1 ≤ n) :
    Calls Try.prog 101 #[.pointer (some ⟨g, 0, none⟩), .int .i64 x, .int .i64 m] w (GivesB (.string ((rrT ss ps lg dt x n).extract 0 m)) w) := by
  have hgl : g < w.heap.size := by
    rcases Nat.lt_or_ge g w.heap.size with hl | hl
    · exact hl
    · rw [Array.getElem?_eq_none hl] at hg; cases hg
  have hb := pgrOk_b hok
  have hm2 : (m : Int) ≤ 65536 := by rcases bkF_b (m : Int) with h | h <;> omega
  have HSZ := Lib.hid (fun j hj => rrT_size hok hx0 hxn j hj)
  have HG : Hid (∀ W (j : Nat), j < n → Below w.heap.size w W → Calls Try.prog 119 #[.pointer (some ⟨g, 0, none⟩), .int .i64 (x + (j : Int))] W (GivesB (.string (gtS ss ps lg dt (x + (j : Int)))) W)) := Lib.hid (fun W j hj hW => l12Get_any (w := W) (k := x + (j : Int)) (fz := fz) (off := off) (b := b) (l := l) (q := q) (t := t) (sq := sq) (at_ := at_) ((hW.block _ hgl).trans hg) (h0.at hB hW) (h1.at hB hW) (h10.at hB hW) (h11.at hB hW) (Nat.le_refl _) (by omega) (by omega))
  have HT : Hid (∀ j, rrT ss ps lg dt x (j + 1) = rrT ss ps lg dt x j ++ gtS ss ps lg dt (x + (j : Int))) := Lib.hid (fun j => rfl)
  have HZ : Hid (rrT ss ps lg dt x 0 = ⟨#[]⟩) := Lib.hid rfl
  have HG64 : Hid (∀ j : Nat, j < n → (gtS ss ps lg dt (x + (j : Int))).size = 64) := Lib.hid (fun j hj => gtS_64 hok (by omega) (by omega))
  have C0 := Lib.hid (fun W => specBlocksFor_q (m : Int) W)
  rw [hbk] at C0
  generalize rrT ss ps lg dt x = T at *
  generalize gtS ss ps lg dt = G at *
  have hxb : x ≤ 256 := by omega
  have hn2 : n ≤ 256 := by omega
  clear hok h0 h1 h10 h11 hg hb hbk
  have Hm := Lib.hid hm; clear hm
  go_enter Try.func101, Try.ntmps101
  go_wp2_with fail
  go_loopw [7, 8] (fun v i wr => ∃ k : Nat, k ≤ n ∧ i = .int .i64 k ∧ OwnB wr w.heap.size v (T k).data.toList ∧ Below w.heap.size w wr) (fun _ i _ => n - (intOf i).toNat)
  case atStart => exact ⟨0, Nat.zero_le _, rfl, by rw [HZ.out]; exact World.ownsRow_lit w #[] 0 (Nat.le_refl _) (by decide) rfl, (Below.refl _ _).alloc (Nat.le_refl _) _⟩
  case round =>
    obtain ⟨k, hk, rfl, hown, hbel⟩ := hrel
    have hsz := hbel.size
    by_cases hlt : k < n
    · have HC := Lib.hid (HG.out wr k hlt hbel)
      have Hown := Lib.hid hown; have Hbel := Lib.hid hbel
      have hz := HG64.out k hlt
      have hT := HSZ.out k hk
      have HS := Lib.hid (HT.out k)
      clear hown hbel
      generalize G (x + (k : Int)) = p at *
      go_wp2_with ((go_at_call 19; refine (C0.out _).mono ?_; rintro e w' ⟨rfl, rfl⟩))
      refine HC.out.mono ?_
      rintro e w2 ⟨rfl, g2⟩
      have hown2 : OwnB w2 w.heap.size _ _ := own_bel Hown.out g2
      have hb2 : Below w.heap.size w w2 := Hbel.out.trans (g2.mono hsz)
      have hs2 := hb2.size
      have Hb2 := Lib.hid hb2
      clear g2 hb2
      go_wp2_with (at_builtin; refine wpList_appS rfl (.tmp 16) (.tmp 21) rfl w.heap.size _ _ hown2 rfl p rfl ?c1 hs2 ?_)
      case c1 => have e : (T k).data.toList.length = (T k).size := by simp
                 omega
      intro v' w3 hown3 hb3
      have Ho3 : Hid (OwnB w3 w.heap.size v' (T (k + 1)).data.toList) := Lib.hid (by rw [HS.out]; simpa using hown3)
      have Hb3 := Lib.hid (Hb2.out.trans hb3)
      clear hown2 hown3 hb3 hs2
      go_wp2_with fail
      go_roundw
      case rel => exact ⟨k + 1, by omega, by go_num, Ho3.out, Hb3.out⟩
      case measure => simp [intOf]; omega
    · obtain rfl : k = n := by omega
      have hT := HSZ.out k hk
      have el : (T k).data.toList.length = 64 * k := by
        have e9 : (T k).data.toList.length = (T k).size := by simp
        omega
      have hm3 := Hm.out
      rcases own_sl hown with ⟨_, h0⟩ | ⟨gg, cap, rfl, _, _, hcl, hcm⟩
      · omega
      · have hc := conv_part (m := m) (by omega) hown
        have he : (⟨((T k).data.toList.take m).toArray⟩ : ByteArray) = (T k).extract 0 m := by
          apply ByteArray.ext
          apply Array.toList_inj.1
          rw [ByteArray.data_extract, Array.toList_extract, List.extract_eq_take_drop]
          simp
        rw [he] at hc
        generalize (T k).extract 0 m = R at *
        rw [el] at hcl ⊢
        have Hbel := Lib.hid hbel
        unfold maxLen at hcm
        clear hown hbel he
        go_wp2_with ((go_at_call 19; refine (C0.out _).mono ?_; rintro e w' ⟨rfl, rfl⟩))
        go_ret
        exact ⟨rfl, Hbel.out⟩
set_option maxHeartbeats 4000000 in
set_option maxRecDepth 100000 in
theorem specReadRun_any {B : Nat} {w : World} {v0 v1 v10 v11 : Value} {ss : List ByteArray} {ps lg dt : List Pt} {fz b l q t sq at_ : Int} {off : Bool} {x z : Int} (h0 : RiT B w v0 ss) (h1 : RiU B w v1 ps) (h10 : RiU B w v10 lg) (h11 : RiU B w v11 dt) (hx : (Lit.int .i64 x).wf = true) (hz : (Lit.int .i64 z).wf = true) (hB : B ≤ w.heap.size) (i4 : InI b) (i5 : InI l) :
    Calls Try.prog 36 #[.agg #[v0, v1, .int .i64 fz, .bool off, .int .i64 b, .int .i64 l, .int .i64 q, .int .i64 t, .int .i64 sq, .int .i64 at_, v10, v11], .int .i64 x, .int .i64 z] w (GivesB (.tuple #[.string (rrV ss ps fz off b l q t sq at_ lg dt x z), .int .i64 (rrC ss ps fz off b l q t sq at_ lg dt x z)]) w) := by
  have hxb := i64_bounds hx
  have Hb0 : Hid (Below w.heap.size w (w.alloc (.cells #[v0, v1, .int .i64 fz, .bool off, .int .i64 b, .int .i64 l, .int .i64 q, .int .i64 t, .int .i64 sq, .int .i64 at_, v10, v11] 42))) := Lib.hid ((Below.refl _ w).alloc (Nat.le_refl _) _)
  have R0 : Hid ((w.alloc (.cells #[v0, v1, .int .i64 fz, .bool off, .int .i64 b, .int .i64 l, .int .i64 q, .int .i64 t, .int .i64 sq, .int .i64 at_, v10, v11] 42)).heap[w.heap.size]? = some (.cells #[v0, v1, .int .i64 fz, .bool off, .int .i64 b, .int .i64 l, .int .i64 q, .int .i64 t, .int .i64 sq, .int .i64 at_, v10, v11] 42 (0, 0))) := Lib.hid (heap_alloc_new w _)
  have Lt0 : Hid (w.heap.size < (w.alloc (.cells #[v0, v1, .int .i64 fz, .bool off, .int .i64 b, .int .i64 l, .int .i64 q, .int .i64 t, .int .i64 sq, .int .i64 at_, v10, v11] 42)).heap.size) := Lib.hid (by simp)
  have C1 := Lib.hid (l12Ok_any R0.out (h0.at hB Hb0.out) (h1.at hB Hb0.out) (h10.at hB Hb0.out) (h11.at hB Hb0.out) (Nat.le_refl _) i4 i5)
  have C0 := Lib.hid (fun W => specBlocksFor_q z W)
  have C2 : Hid (pgrOk ss ps fz off b l q t sq at_ lg dt = true → ∀ W, Below (w.alloc (.cells #[v0, v1, .int .i64 fz, .bool off, .int .i64 b, .int .i64 l, .int .i64 q, .int .i64 t, .int .i64 sq, .int .i64 at_, v10, v11] 42)).heap.size (w.alloc (.cells #[v0, v1, .int .i64 fz, .bool off, .int .i64 b, .int .i64 l, .int .i64 q, .int .i64 t, .int .i64 sq, .int .i64 at_, v10, v11] 42)) W → _) := Lib.hid (fun hok W hW => l13Data_any (w := W) x (bkF z) ((hW.block _ Lt0.out).trans R0.out) (pgrOk_t hok).1 (by unfold InI; omega))
  have C3 : Hid (pgrOk ss ps fz off b l q t sq at_ lg dt = true → dtB b l x (bkF z) = true → (∃ n m : Nat, z = (m : Int) ∧ bkF (m : Int) = (n : Int)) ∧ ∀ n m : Nat, z = (m : Int) → bkF (m : Int) = (n : Int) → ∀ W, Below (w.alloc (.cells #[v0, v1, .int .i64 fz, .bool off, .int .i64 b, .int .i64 l, .int .i64 q, .int .i64 t, .int .i64 sq, .int .i64 at_, v10, v11] 42)).heap.size (w.alloc (.cells #[v0, v1, .int .i64 fz, .bool off, .int .i64 b, .int .i64 l, .int .i64 q, .int .i64 t, .int .i64 sq, .int .i64 at_, v10, v11] 42)) W → Calls Try.prog 101 #[.pointer (some ⟨w.heap.size, 0, none⟩), .int .i64 x, .int .i64 m] W (GivesB (.string ((rrT ss ps lg dt x n).extract 0 m)) W)) := Lib.hid (fun hok hd => by
    have hb := pgrOk_b hok
    have hd2 := (dtB_iff (by omega) (by omega)).1 hd
    have hk := bkF_b z
    refine ⟨⟨(bkF z).toNat, z.toNat, by omega, by rw [show ((z.toNat : Nat) : Int) = z by omega]; omega⟩, fun n m hm hn W hW => ?_⟩
    subst hm
    rw [hn] at hd2 hk
    exact l13Read_any ((hW.block _ Lt0.out).trans R0.out) (h0.at hB (Hb0.out.trans (hW.mono Hb0.out.size))) (h1.at hB (Hb0.out.trans (hW.mono Hb0.out.size))) (h10.at hB (Hb0.out.trans (hW.mono Hb0.out.size))) (h11.at hB (Hb0.out.trans (hW.mono Hb0.out.size))) (Nat.le_refl _) hok (by omega) (by omega) hn (by omega) (by omega))
  have HV : Hid (rrV ss ps fz off b l q t sq at_ lg dt x z = (if rrOk ss ps fz off b l q t sq at_ lg dt x z then (rrT ss ps lg dt x (bkF z).toNat).extract 0 z.toNat else ⟨#[]⟩) ∧ rrC ss ps fz off b l q t sq at_ lg dt x z = (if pgrOk ss ps fz off b l q t sq at_ lg dt then (if dtB b l x (bkF z) then 0 else 2) else 1) ∧ rrOk ss ps fz off b l q t sq at_ lg dt x z = (pgrOk ss ps fz off b l q t sq at_ lg dt && dtB b l x (bkF z))) := Lib.hid ⟨rfl, rfl, rfl⟩
  generalize rrV ss ps fz off b l q t sq at_ lg dt x z = rv at *
  generalize rrC ss ps fz off b l q t sq at_ lg dt x z = rc at *
  generalize rrOk ss ps fz off b l q t sq at_ lg dt x z = rk at *
  generalize dtB b l x (bkF z) = y at *
  generalize pgrOk ss ps fz off b l q t sq at_ lg dt = zz at *
  clear h0 h1 h10 h11 hx hz
  go_enter Try.func36, Try.ntmps36
  go_wp2_with fail
  generalize (w.alloc (.cells #[v0, v1, .int .i64 fz, .bool off, .int .i64 b, .int .i64 l, .int .i64 q, .int .i64 t, .int .i64 sq, .int .i64 at_, v10, v11] 42)) = w0 at *
  refine C1.out.mono ?_
  rintro e w1 ⟨rfl, g⟩
  have Hg1 := Lib.hid g
  have Hb1 := Lib.hid (Hb0.out.trans (g.mono Hb0.out.size)); clear g
  cases zz
  · have Hf : Hid (rv = ⟨#[]⟩ ∧ rc = 1) := Lib.hid ⟨by rw [HV.out.1, HV.out.2.2]; rfl, HV.out.2.1⟩
    go_wp2_with fail
    go_ret2
    exact ⟨by rw [Hf.out.1, Hf.out.2]; rfl, Hb1.out⟩
  go_wp2_with ((go_at_call 19; refine (C0.out _).mono ?_; rintro e w' ⟨rfl, rfl⟩))
  refine (C2.out (by first | rfl | trivial) _ Hg1.out).mono ?_
  rintro e w2 ⟨rfl, g⟩
  have Hg2 := Lib.hid (Hg1.out.trans (g.mono Hg1.out.size))
  have Hb2 := Lib.hid (Hb1.out.trans (g.mono Hb1.out.size)); clear g
  cases y
  · have Hf : Hid (rv = ⟨#[]⟩ ∧ rc = 2) := Lib.hid ⟨by rw [HV.out.1, HV.out.2.2]; rfl, HV.out.2.1⟩
    go_wp2_with fail
    go_ret2
    exact ⟨by rw [Hf.out.1, Hf.out.2]; rfl, Hb2.out⟩
  obtain ⟨⟨n, m, hm, hn⟩, hc⟩ := C3.out (by first | rfl | trivial) (by first | rfl | trivial)
  have C4 := Lib.hid (hc n m hm hn _ Hg2.out)
  subst hm
  have Hf : Hid (rv = (rrT ss ps lg dt x n).extract 0 m ∧ rc = 0) := Lib.hid ⟨by rw [HV.out.1, HV.out.2.2, hn]; simp, HV.out.2.1⟩
  clear hc C3 HV
  generalize (rrT ss ps lg dt x n).extract 0 m = R at *
  go_wp2_with fail
  refine C4.out.mono ?_
  rintro e w3 ⟨rfl, g⟩
  have Hb3 := Lib.hid (Hb2.out.trans (g.mono Hb2.out.size)); clear g
  go_wp2_with fail
  go_ret2
  exact ⟨by rw [Hf.out.1, Hf.out.2]; rfl, Hb3.out⟩
end Go.Proofs.Ytlickjmdlooapaa
namespace Go.Proofs.Ytlickjmdlooapaa
open Go.RowKit
set_option linter.unusedVariables false
theorem IsB.bel {B b : Nat} {bs : List Value} {w w' : World} (h : IsB B b bs w) (g : Below w.heap.size w w') : IsB B b bs w' := by
  have key : ∀ p, Lib.BuilderAt 143 5 B b p bs w → Lib.BuilderAt 143 5 B b p bs w' := fun p h => by
    obtain ⟨h1, v, h2, h3, h4⟩ := h
    have hlt : b < w.heap.size := by
      rcases Nat.lt_or_ge b w.heap.size with h' | h'
      · exact h'
      · simp [Array.getElem?_eq_none h'] at h2
    exact ⟨h1, v, (g.block _ hlt).trans h2, own_bel h3 g, h4⟩
  rcases h with h | h
  · exact .inl (key _ h)
  · exact .inr (key _ h)
def bsOf (s : ByteArray) : List Value := Lib.byteCells s.data.toList
theorem bsOf_app (a b : ByteArray) : bsOf a ++ Lib.strCells b = bsOf (a ++ b) := by
  rw [strCells_bytes]
  unfold bsOf Lib.byteCells
  rw [← List.map_append]
  simp
theorem nilB_app (a : ByteArray) : (⟨#[]⟩ : ByteArray) ++ a = a := by
  apply ByteArray.ext; simp
theorem bsOf_len (a : ByteArray) : (bsOf a).length = a.size := by unfold bsOf Lib.byteCells; simp
/-- WriteString, said of the text so far. -/
theorem wrS {B b : Nat} {w : World} {a s c : ByteArray} (hc : a ++ s = c) (h : IsB B b (bsOf a) w) (hz : a.size + s.size ≤ 100000000) (hBw : B ≤ w.heap.size) :
    Calls Try.prog 103 #[.pointer (some ⟨b, 0, none⟩), .string s] w fun e w' => e = .returned (.tuple #[.int .i64 s.size, .nilIface]) ∧ IsB B b (bsOf c) w' ∧ Below B w w' ∧ Kp b w w' := by
  subst hc
  rw [← bsOf_app]
  exact writeString_any B b _ s w h (by rw [bsOf_len]; omega) hBw
theorem rdBld {B b : Nat} {w : World} {a : ByteArray} (h : IsB B b (bsOf a) w) (hBw : B ≤ w.heap.size) :
    Calls Try.prog 105 #[.pointer (some ⟨b, 0, none⟩)] w fun e w' => e = .returned (.string a) ∧ Below B w w' := by
  have := string_any B b a.data.toList w h hBw
  rwa [show (⟨a.data.toList.toArray⟩ : ByteArray) = a from by simp] at this
end Go.Proofs.Ytlickjmdlooapaa
namespace Go.Proofs.Ytlickjmdlooapaa
open Go.RowKit
set_option linter.unusedVariables false
set_option maxHeartbeats 4000000 in
set_option maxRecDepth 100000 in
theorem implReadRun_any {B : Nat} {w : World} {v0 v1 v10 v11 : Value} {ss : List ByteArray} {ps lg dt : List Pt} {fz b l q t sq at_ : Int} {off : Bool} {x z : Int} (h0 : RiT B w v0 ss) (h1 : RiU B w v1 ps) (h10 : RiU B w v10 lg) (h11 : RiU B w v11 dt) (hx : (Lit.int .i64 x).wf = true) (hz : (Lit.int .i64 z).wf = true) (hB : B ≤ w.heap.size) (i4 : InI b) (i5 : InI l) :
    Calls Try.prog 37 #[.agg #[v0, v1, .int .i64 fz, .bool off, .int .i64 b, .int .i64 l, .int .i64 q, .int .i64 t, .int .i64 sq, .int .i64 at_, v10, v11], .int .i64 x, .int .i64 z] w (GivesB (.tuple #[.string (rrV ss ps fz off b l q t sq at_ lg dt x z), .int .i64 (rrC ss ps fz off b l q t sq at_ lg dt x z)]) w) := by
  have H0 := Lib.hid h0; obtain ⟨A0, c0, rfl, l0, m0, -⟩ := h0
  have H1 := Lib.hid h1; obtain ⟨A1, c1, rfl, l1, m1, -⟩ := h1
  have H10 := Lib.hid h10; obtain ⟨A10, c10, rfl, l10, m10, -⟩ := h10
  have H11 := Lib.hid h11; obtain ⟨A11, c11, rfl, l11, m11, -⟩ := h11
  unfold maxLen at m0 m1 m10 m11
  have hxb := i64_bounds hx
  have Hb0 : Hid (Below w.heap.size w (w.alloc (.cells #[.slice A0 ss.length c0, .slice A1 ps.length c1, .int .i64 fz, .bool off, .int .i64 b, .int .i64 l, .int .i64 q, .int .i64 t, .int .i64 sq, .int .i64 at_, .slice A10 lg.length c10, .slice A11 dt.length c11] 42))) := Lib.hid ((Below.refl _ w).alloc (Nat.le_refl _) _)
  have R0 : Hid ((w.alloc (.cells #[.slice A0 ss.length c0, .slice A1 ps.length c1, .int .i64 fz, .bool off, .int .i64 b, .int .i64 l, .int .i64 q, .int .i64 t, .int .i64 sq, .int .i64 at_, .slice A10 lg.length c10, .slice A11 dt.length c11] 42)).heap[w.heap.size]? = some (.cells #[.slice A0 ss.length c0, .slice A1 ps.length c1, .int .i64 fz, .bool off, .int .i64 b, .int .i64 l, .int .i64 q, .int .i64 t, .int .i64 sq, .int .i64 at_, .slice A10 lg.length c10, .slice A11 dt.length c11] 42 (0, 0))) := Lib.hid (heap_alloc_new w _)
  have Lt0 : Hid (w.heap.size < (w.alloc (.cells #[.slice A0 ss.length c0, .slice A1 ps.length c1, .int .i64 fz, .bool off, .int .i64 b, .int .i64 l, .int .i64 q, .int .i64 t, .int .i64 sq, .int .i64 at_, .slice A10 lg.length c10, .slice A11 dt.length c11] 42)).heap.size) := Lib.hid (by simp)
  have C1 := Lib.hid (implValidPager_any (fz := fz) (off := off) (q := q) (t := t) (sq := sq) (at_ := at_) (H0.out.at hB Hb0.out) (H1.out.at hB Hb0.out) (H10.out.at hB Hb0.out) (H11.out.at hB Hb0.out) (Nat.le_refl _) i4 i5)
  have C0 := Lib.hid (fun W => implBlocksFor_q z W)
  have C2 : Hid (pgrOk ss ps fz off b l q t sq at_ lg dt = true → ∀ W, _) := Lib.hid (fun hok W => hasRun_any (b := b) (l := l) (q := q) (t := t) x (bkF z) W (pgrOk_t hok).1 (by rcases bkF_b z with h | h <;> (unfold InI; omega)))
  have HX : Hid (pgrOk ss ps fz off b l q t sq at_ lg dt = true → dtB b l x (bkF z) = true → ∃ n m : Nat, z = (m : Int) ∧ bkF z = (n : Int) ∧ m ≤ 64 * n ∧ n ≤ 256 ∧ 0 ≤ x ∧ x ≤ 256 ∧ (∀ j, j ≤ n → (rrT ss ps lg dt x j).size = 64 * j) ∧ (∀ j : Nat, j < n → (gtS ss ps lg dt (x + (j : Int))).size = 64) ∧ ∀ j : Nat, j < n → ∀ W, Below w.heap.size w W → Calls Try.prog 104 #[.agg #[.slice A0 ss.length c0, .slice A1 ps.length c1, .int .i64 fz, .bool off, .int .i64 b, .int .i64 l, .int .i64 q, .int .i64 t, .int .i64 sq, .int .i64 at_, .slice A10 lg.length c10, .slice A11 dt.length c11], .int .i64 (x + (j : Int))] W (GivesB (.string (gtS ss ps lg dt (x + (j : Int)))) W)) := Lib.hid (fun hok hd => by
    have hb := pgrOk_b hok
    have hd2 := (dtB_iff (by omega) (by omega)).1 hd
    have hk := bkF_b z
    refine ⟨(bkF z).toNat, z.toNat, by omega, by omega, by omega, by omega, by omega, by omega, fun j hj => rrT_size (n := (bkF z).toNat) hok (by omega) (by omega) j hj, fun j hj => gtS_64 hok (by omega) (by omega), fun j hj W hW => ?_⟩
    exact current_any (w := W) (k := x + (j : Int)) (fz := fz) (off := off) (b := b) (l := l) (q := q) (t := t) (sq := sq) (at_ := at_) (H0.out.at hB hW) (H1.out.at hB hW) (H10.out.at hB hW) (H11.out.at hB hW) (Nat.le_refl _) (by omega) (by omega) (WalkArith.wf_i64 (by omega)))
  have HT : Hid (∀ j : Nat, rrT ss ps lg dt x (j + 1) = rrT ss ps lg dt x j ++ gtS ss ps lg dt (x + (j : Int))) := Lib.hid (fun j => rfl)
  have HT0 : Hid (rrT ss ps lg dt x 0 = ⟨#[]⟩) := Lib.hid rfl
  have HV : Hid (rrV ss ps fz off b l q t sq at_ lg dt x z = (if rrOk ss ps fz off b l q t sq at_ lg dt x z then (rrT ss ps lg dt x (bkF z).toNat).extract 0 z.toNat else ⟨#[]⟩) ∧ rrC ss ps fz off b l q t sq at_ lg dt x z = (if pgrOk ss ps fz off b l q t sq at_ lg dt then (if dtB b l x (bkF z) then 0 else 2) else 1) ∧ rrOk ss ps fz off b l q t sq at_ lg dt x z = (pgrOk ss ps fz off b l q t sq at_ lg dt && dtB b l x (bkF z))) := Lib.hid ⟨rfl, rfl, rfl⟩
  generalize rrV ss ps fz off b l q t sq at_ lg dt x z = rv at *
  generalize rrC ss ps fz off b l q t sq at_ lg dt x z = rc at *
  generalize rrOk ss ps fz off b l q t sq at_ lg dt x z = rk at *
  generalize dtB b l x (bkF z) = y at *
  generalize rrT ss ps lg dt x = T at *
  generalize gtS ss ps lg dt = G at *
  generalize pgrOk ss ps fz off b l q t sq at_ lg dt = zz at *
  clear hx hz
  go_enter Try.func37, Try.ntmps37
  go_wp2_with (refine wpList_load_row rfl 42 (.tmp 3) rfl _ rfl 42 _ (0, 0) _ R0.out Try.underlying42 rfl (by kernel_rfl) ?_)
  generalize (w.alloc (.cells #[.slice A0 ss.length c0, .slice A1 ps.length c1, .int .i64 fz, .bool off, .int .i64 b, .int .i64 l, .int .i64 q, .int .i64 t, .int .i64 sq, .int .i64 at_, .slice A10 lg.length c10, .slice A11 dt.length c11] 42)) = w0 at *
  refine C1.out.mono ?_
  rintro e w1 ⟨rfl, g⟩
  have Hb1 := Lib.hid (Hb0.out.trans (g.mono Hb0.out.size))
  have R1 := Lib.hid ((g.block _ Lt0.out).trans R0.out)
  have Lt1 : Hid (w.heap.size < w1.heap.size) := Lib.hid (by have := Lt0.out; have := g.size; omega)
  clear g
  cases zz
  · have Hf : Hid (rv = ⟨#[]⟩ ∧ rc = 1) := Lib.hid ⟨by rw [HV.out.1, HV.out.2.2]; rfl, HV.out.2.1⟩
    go_wp2_with fail
    go_ret2
    exact ⟨by rw [Hf.out.1, Hf.out.2]; rfl, Hb1.out⟩
  have C2' := Lib.hid (C2.out (by first | rfl | trivial))
  have HX' := Lib.hid (HX.out (by first | rfl | trivial))
  clear C2 HX
  have HSt : Hid (∀ W, Below w1.heap.size w1 W → W.cell? ⟨w.heap.size, 4, none⟩ = some (.int .i64 b) ∧ W.cell? ⟨w.heap.size, 5, none⟩ = some (.int .i64 l) ∧ W.cell? ⟨w.heap.size, 6, none⟩ = some (.int .i64 q) ∧ W.cell? ⟨w.heap.size, 7, none⟩ = some (.int .i64 t)) := Lib.hid (fun W hW => by
    have R := (hW.block _ Lt1.out).trans R1.out
    exact ⟨by rw [cell_of_row _ _ _ _ _ _ R]; rfl, by rw [cell_of_row _ _ _ _ _ _ R]; rfl, by rw [cell_of_row _ _ _ _ _ _ R]; rfl, by rw [cell_of_row _ _ _ _ _ _ R]; rfl⟩)
  have HD : Hid (Below w1.heap.size w1 w1.drew) := Lib.hid (Below.refl _ _).drew
  go_wp2_with fail
  go_region_held3 (fun W => W.cell? ⟨w.heap.size, 4, none⟩ = some (.int .i64 b) ∧ W.cell? ⟨w.heap.size, 5, none⟩ = some (.int .i64 l) ∧ W.cell? ⟨w.heap.size, 6, none⟩ = some (.int .i64 q) ∧ W.cell? ⟨w.heap.size, 7, none⟩ = some (.int .i64 t)) (exact HSt.out _ (by first | exact kb1 | exact HD.out))
    ((first | (go_at_call 20; go_fit (C0.out _); rintro e u0 ⟨rfl, rfl⟩) | (go_at_call 102; go_fit (C2'.out _); rintro e u1 ⟨rfl, g1⟩; have kb1 : Below w1.heap.size w1 u1 := HD.out.trans (g1.mono HD.out.size))))
  try simp only [Exit.then]
  have Hk1 := Lib.hid kb1
  have Hb2 := Lib.hid (Hb1.out.trans (kb1.mono Hb1.out.size))
  have R2 := Lib.hid ((kb1.block _ Lt1.out).trans R1.out)
  have Lt2 : Hid (w.heap.size < u1.heap.size) := Lib.hid (by have := Lt1.out; have := kb1.size; omega)
  clear kb1 g1
  cases y
  · have Hf : Hid (rv = ⟨#[]⟩ ∧ rc = 2) := Lib.hid ⟨by rw [HV.out.1, HV.out.2.2]; rfl, HV.out.2.1⟩
    go_wp2_with fail
    go_ret2
    exact ⟨by rw [Hf.out.1, Hf.out.2]; rfl, Hb2.out⟩
  obtain ⟨n, m, hm, hn, hmn, hn2, hx0, hx2, hsz, hg64, hcu⟩ := HX'.out (by first | rfl | trivial)
  have HSZ := Lib.hid hsz; have HG64 := Lib.hid hg64; have HCU := Lib.hid hcu; have HMN := Lib.hid hmn
  clear hsz hg64 hcu HX' hmn
  rw [hn] at C0
  have Hf : Hid (rv = (T n).extract 0 m ∧ rc = 0) := Lib.hid ⟨by rw [HV.out.1, HV.out.2.2, hn, hm]; simp, HV.out.2.1⟩
  subst hm
  clear HV C2' hn
  have hbs : u1.heap.size < (u1.alloc (.cells #[.pointer none, .slice none 0 0] 143)).heap.size := by simp
  have I2 : Hid (IsB u1.heap.size u1.heap.size (bsOf ⟨#[]⟩) (u1.alloc (.cells #[.pointer none, .slice none 0 0] 143))) := Lib.hid (IsB.new u1)
  have Hb3 : Hid (Below u1.heap.size u1 (u1.alloc (.cells #[.pointer none, .slice none 0 0] 143))) := Lib.hid ((Below.refl _ _).alloc (Nat.le_refl _) _)
  have Z3 := Lib.hid hbs; clear hbs
  have hw0 : wrap64 (x + (n : Int)) = x + (n : Int) := by unfold wrap64; omega
  go_wp2_with fail
  generalize (u1.alloc (.cells #[.pointer none, .slice none 0 0] 143)) = w3 at *
  generalize hbb : u1.heap.size = bb at *
  have Hbb := Lib.hid hbb; clear hbb
  go_loopw [9] (fun i wr => ∃ j : Nat, j ≤ n ∧ i = .int .i64 (x + (j : Int)) ∧ IsB bb bb (bsOf (T j)) wr ∧ Below bb u1 wr ∧ bb < wr.heap.size) (fun i _ => (x + (n : Int) - Lib.intOf i).toNat)
  case atStart => exact ⟨0, Nat.zero_le _, by simp, by rw [HT0.out]; exact I2.out, Hb3.out, Z3.out⟩
  case round =>
    obtain ⟨j, hj, rfl, hib, hbel, hbz⟩ := hrel
    have Hib := Lib.hid hib; have Hbel := Lib.hid hbel; have Hbz := Lib.hid hbz
    have R3 := Lib.hid ((hbel.block _ (by have := Hbb.out; have := Lt2.out; omega)).trans R2.out)
    have Hbw : Hid (Below w.heap.size w wr) := Lib.hid (Hb2.out.trans (hbel.mono (by have := Hbb.out; have := Lt2.out; omega)))
    clear hib hbel hbz
    by_cases hlt : j < n
    · have HC := Lib.hid (HCU.out j hlt wr Hbw.out)
      have hz := HG64.out j hlt
      have hT := HSZ.out j hj
      have HS := Lib.hid (HT.out j)
      generalize G (x + (j : Int)) = p at *
      have hx3 : x + (j : Int) < x + (n : Int) := by omega
      go_wp2_with (first | (go_at_call 20; refine (C0.out _).mono ?_; rintro e w' ⟨rfl, rfl⟩) | (refine wpList_load_row rfl 42 (.tmp 3) rfl _ rfl 42 _ (0, 0) _ R3.out Try.underlying42 rfl (by kernel_rfl) ?_))
      refine HC.out.mono ?_
      rintro e w4 ⟨rfl, g4⟩
      have I4 := Lib.hid (Hib.out.bel g4)
      have Z4 : Hid (bb < w4.heap.size) := Lib.hid (by have := Hbz.out; have := g4.size; omega)
      have Hb4 : Hid (Below bb u1 w4) := Lib.hid (Hbel.out.trans (g4.mono (by have := Hbz.out; omega)))
      have CW := Lib.hid (wrS (B := bb) (a := T j) (c := T (j + 1)) (by rw [HS.out]) I4.out (by omega) (by have := Z4.out; omega))
      clear g4
      go_wp2_with fail
      refine CW.out.mono ?_
      rintro e w5 ⟨rfl, i5, g5, -⟩
      have I5 := Lib.hid i5
      have Hb5 := Lib.hid (Hb4.out.trans g5)
      have Z5 : Hid (bb < w5.heap.size) := Lib.hid (by have := Z4.out; have := g5.size; omega)
      clear i5 g5 CW
      go_wp2_with fail
      have e1 : x + (j : Int) + 1 = x + ((j + 1 : Nat) : Int) := by omega
      rw [e1]
      have hjn : (j : Int) < (n : Int) := by omega
      go_roundw
      case rel => exact ⟨_, _, _, _, _, _, _, _, _, _, _, _, _, ⟨j + 1, by omega, rfl, I5.out, Hb5.out, Z5.out⟩, rfl⟩
      case measure =>
        show (x + (n : Int) - Lib.intOf (.int .i64 (x + ((j + 1 : Nat) : Int)))).toNat < (x + (n : Int) - Lib.intOf (.int .i64 (x + (j : Int)))).toNat
        simp only [Lib.intOf]
        omega
    · obtain rfl : j = n := by omega
      have HRd := Lib.hid (rdBld Hib.out (by have := Hbz.out; omega))
      have hT := HSZ.out j hj
      have hmn := HMN.out
      have hms : m ≤ (T j).size := by omega
      generalize T j = S at *
      clear hT
      go_wp2_with ((go_at_call 20; refine (C0.out _).mono ?_; rintro e w' ⟨rfl, rfl⟩))
      refine HRd.out.mono ?_
      rintro e w9 ⟨rfl, g9⟩
      have Hb9 : Hid (Below w.heap.size w w9) := Lib.hid (Hb2.out.trans ((Hbel.out.trans g9).mono (by have := Hbb.out; have := Lt2.out; omega)))
      clear g9
      go_wp2_with fail
      go_ret2
      exact ⟨by rw [Hf.out.1, Hf.out.2]; first | rfl | simp, Hb9.out⟩
end Go.Proofs.Ytlickjmdlooapaa
