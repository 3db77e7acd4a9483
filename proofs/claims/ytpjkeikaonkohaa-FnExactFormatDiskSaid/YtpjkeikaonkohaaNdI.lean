/- The contract of the program's NewDisk. No statement is proved here. -/
import Derived.Test.YtpjkeikaonkohaaDrv
namespace Go.Proofs.Ytpjkeikaonkohaa
open Go.RowKit
set_option linter.unusedVariables false
set_option maxRecDepth 100000 in
theorem Try.infoSec : (Try.prog.info? 123).map (fun i => (i.zero.map Value.cells, i.size, i.bytes)) = some (some (Array.replicate 64 (Value.int .u8 0)), 64, 64) := by kernel_rfl
/-- New sectors. -/
theorem make_sec (n : Nat) (hn : n ≤ 1048576) : ∃ C : Array Value, C.size = n * 64 ∧ (∀ k, k < n * 64 → C[k]? = some (.int .u8 0)) ∧
    ∀ w : World, (Instr.makeSlice 83 (.int .i64 (n : Int)) (.int .i64 (n : Int))).run Try.prog w = .ok (.slice (some ⟨w.heap.size, 0, none⟩) n n) (w.alloc (.cells C 123)) := by
  obtain ⟨i, hi, he⟩ := Option.map_eq_some_iff.1 Try.infoSec
  simp only [Prod.mk.injEq] at he
  obtain ⟨hz, hs, hb⟩ := he
  obtain ⟨z, hz1, hz2⟩ := Option.map_eq_some_iff.1 hz
  refine ⟨madeCells z.cells (n * 64), size_madeCells _ _, fun k hk => ?_, fun w => ?_⟩
  · rw [hz2, madeCells, Array.getElem?_map, Array.getElem?_range]
    rw [if_pos hk]
    have : k % 64 < 64 := Nat.mod_lt _ (by omega)
    simp only [Option.map_some, Array.size_replicate]
    rw [getElem!_pos _ _ (by simpa using this)]
    simp
  · have := run_make (P := Try.prog) w 83 123 i z Try.underlying83 hi hz1 .i64 .i64 n n (by omega) (Int.le_refl _) (by rw [hb]; omega) (by omega)
    rw [hs] at this
    simpa only [Int.toNat_natCast] using this
theorem zeros_at (j : Nat) (h : j < (zeros 64).size) : (zeros 64)[j] = 0 := by
  exact List.eq_of_mem_replicate (List.getElem_mem (l := List.replicate 64 (0 : UInt8)) h)
theorem sec_new {W : World} {S n : Nat} {C : Array Value} (hC : C.size = n * 64) (hz : ∀ k, k < n * 64 → C[k]? = some (.int .u8 0)) (h : W.heap[S]? = some (.cells C 123 (0, 0))) : Sec W S (zs n) := by
  refine ⟨C, h, by rw [zs_len]; exact hC, fun i hi => ?_⟩
  rw [zs_len] at hi
  have e : (zs n)[i]'(by rw [zs_len]; exact hi) = zeros 64 := List.eq_of_mem_replicate (List.getElem_mem _)
  rw [e]
  refine ⟨by decide, fun j hj => ?_⟩
  rw [hz _ (by have : j < 64 := hj; omega), zeros_at j hj]
  rfl
theorem OT.slv {w : World} {lo : Nat} {v : Value} {ss : List ByteArray} (h : OT w lo v ss) : ∃ A m c, v = .slice A m c := by
  rcases OT.sl h with ⟨rfl, _⟩ | ⟨g, cap, rfl, _⟩
  · exact ⟨_, _, _, rfl⟩
  · exact ⟨_, _, _, rfl⟩
theorem rows3 (w : World) (o0 o1 o2 : Obj) : (((w.alloc o0).alloc o1).alloc o2).heap[w.heap.size]? = some o0 ∧ (((w.alloc o0).alloc o1).alloc o2).heap[w.heap.size + 1]? = some o1 ∧ (((w.alloc o0).alloc o1).alloc o2).heap[w.heap.size + 1 + 1]? = some o2 ∧
    (((w.alloc o0).alloc o1).alloc o2).heap.size = w.heap.size + 3 ∧ Below w.heap.size w (((w.alloc o0).alloc o1).alloc o2) := by
  have z1 : (w.alloc o0).heap.size = w.heap.size + 1 := by simp
  have z2 : ((w.alloc o0).alloc o1).heap.size = w.heap.size + 1 + 1 := by simp
  refine ⟨?_, ?_, ?_, by simp, (((Below.refl _ w).alloc (Nat.le_refl _) _).alloc (by omega) _).alloc (by omega) _⟩
  · rw [heap_alloc_old _ _ (by omega), heap_alloc_old _ _ (by omega)]; exact heap_alloc_new _ _
  · rw [heap_alloc_old _ _ (by omega), ← z1]; exact heap_alloc_new _ _
  · rw [← z2]; exact heap_alloc_new _ _
set_option maxHeartbeats 1000000 in
set_option maxRecDepth 100000 in
theorem implNewDisk_any (n : Int) (w : World) (hn : InI n) : Calls Try.prog 27 #[.int .i64 n] w (AnsDC (ndS n) [] (ndF n) false (ndC n) w) := by
  have Hb0 : Hid (Below w.heap.size w (w.alloc (.cells #[.slice none 0 0, .slice none 0 0, .int .i64 0, .bool false] 30))) := Lib.hid ((Below.refl _ w).alloc (Nat.le_refl _) _)
  have R0 : Hid ((w.alloc (.cells #[.slice none 0 0, .slice none 0 0, .int .i64 0, .bool false] 30)).heap[w.heap.size]? = some (.cells #[.slice none 0 0, .slice none 0 0, .int .i64 0, .bool false] 30 (0, 0))) := Lib.hid (heap_alloc_new w _)
  have Z0 : Hid ((w.alloc (.cells #[.slice none 0 0, .slice none 0 0, .int .i64 0, .bool false] 30)).heap.size = w.heap.size + 1) := Lib.hid (by simp)
  cases hb : inB n 16 256
  · have h1 : ndS n = [] := by simp [ndS, hb]
    have h2 : ndF n = 0 := by simp [ndF, hb]
    have h3 : ndC n = 2 := by simp [ndC, hb]
    rw [h1, h2, h3]
    clear h1 h2 h3
    have Hi9 : Hid ((Try.prog.info? 30).map (·.size) = some (#[.slice none 0 0, .slice none 0 0, .int .i64 0, .bool false] : Array Value).size) := Lib.hid (by kernel_rfl)
    have H19 : Hid ((#[.slice none 0 0, .slice none 0 0, .int .i64 0, .bool false] : Array Value).all (·.oneCell') = true) := Lib.hid (by simp [Value.oneCell'])
    have hcase : n < 16 ∨ ¬ n < 16 ∧ 256 < n := by
      by_cases h : n < 16
      · exact .inl h
      · refine .inr ⟨h, ?_⟩
        by_cases h2 : 256 < n
        · exact h2
        · rw [inB_yes (by omega) (by omega)] at hb; cases hb
    clear hb
    rcases hcase with hlo | ⟨hlo, hhi⟩
    · have d1 : decide (n < 16) = true := decide_eq_true hlo
      clear hlo
      go_enter Try.func27, Try.ntmps27
      go_wp2_with (refine wpList_store_row rfl 30 (.tmp 2) (.tmp 11) rfl w.heap.size #[.slice none 0 0, .slice none 0 0, .int .i64 0, .bool false] rfl rfl 30 #[.slice none 0 0, .slice none 0 0, .int .i64 0, .bool false] R0.out Hi9.out rfl H19.out ?_)
      refine bodyPost_ret (v := .tuple #[.agg #[.slice none 0 0, .slice none 0 0, .int .i64 0, .bool false], .int .i64 2]) ?_ rfl ?_
      · exact results_cell_row2 rfl _ _ w.heap.size 30 _ (0, 0) _ _ rfl rfl (setRow_heap _ _ _ _ _ _ R0.out) Try.underlying30 rfl (by kernel_rfl)
      · exact DskO.ans (DskO.nil _ _) (below_setRow Hb0.out (Nat.le_refl _) _)
    · have d1 : decide (n < 16) = false := decide_eq_false hlo
      have d2 : decide (256 < n) = true := decide_eq_true hhi
      clear hlo hhi
      go_enter Try.func27, Try.ntmps27
      go_wp2_with (refine wpList_store_row rfl 30 (.tmp 2) (.tmp 11) rfl w.heap.size #[.slice none 0 0, .slice none 0 0, .int .i64 0, .bool false] rfl rfl 30 #[.slice none 0 0, .slice none 0 0, .int .i64 0, .bool false] R0.out Hi9.out rfl H19.out ?_)
      refine bodyPost_ret (v := .tuple #[.agg #[.slice none 0 0, .slice none 0 0, .int .i64 0, .bool false], .int .i64 2]) ?_ rfl ?_
      · exact results_cell_row2 rfl _ _ w.heap.size 30 _ (0, 0) _ _ rfl rfl (setRow_heap _ _ _ _ _ _ R0.out) Try.underlying30 rfl (by kernel_rfl)
      · exact DskO.ans (DskO.nil _ _) (below_setRow Hb0.out (Nat.le_refl _) _)
  · have h1 : ndS n = zs n.toNat := by simp [ndS, hb]
    have h2 : ndF n = -1 := by simp [ndF, hb]
    have h3 : ndC n = 0 := by simp [ndC, hb]
    rw [h1, h2, h3]
    clear h1 h2 h3
    have hbb := inB_iff.1 hb
    have d1 : decide (n < 16) = false := decide_eq_false (by omega)
    have d2 : decide (256 < n) = false := decide_eq_false (by omega)
    obtain ⟨m, rfl⟩ := Int.eq_ofNat_of_zero_le (show 0 ≤ n by omega)
    have hm : m ≤ 256 := by omega
    rw [Int.toNat_natCast]
    obtain ⟨C, hC, hCz, hmk⟩ := make_sec m (by omega)
    have HC := Lib.hid hC; have HCz := Lib.hid hCz
    clear hC hCz hb hbb
    go_enter Try.func27, Try.ntmps27
    go_wp2_with fail
    have HW := Lib.hid (rows3 w (.cells #[.slice none 0 0, .slice none 0 0, .int .i64 0, .bool false] 30) (.cells C 123) (.cells #[.slice (some ⟨w.heap.size + 1, 0, none⟩) m m, .slice none 0 0, .int .i64 (-1), .bool false] 85))
    generalize (((w.alloc (.cells #[.slice none 0 0, .slice none 0 0, .int .i64 0, .bool false] 30)).alloc (.cells C 123)).alloc (.cells #[.slice (some ⟨w.heap.size + 1, 0, none⟩) m m, .slice none 0 0, .int .i64 (-1), .bool false] 85)) = W at *
    have HDv : Hid (Drv W (w.heap.size + 1) (w.heap.size + 1 + 1) (w.heap.size + 1) (.slice none 0 0) (zs m) [] (-1) false) := Lib.hid ⟨by rw [zs_len]; exact HW.out.2.2.1, sec_new HC.out HCz.out HW.out.2.1, ou_none _ _, by omega, Nat.le_refl _, by rw [zs_len]; exact hm⟩
    clear hmk d1 d2
    refine (disk_any HDv.out).mono ?_
    rintro e w1 ⟨v1, rfl, ho, hg⟩
    have HO := Lib.hid ho; have G := Lib.hid hg; clear hg
    obtain ⟨A1, m1, c1, rfl⟩ := OT.slv ho
    clear ho
    have R1 : Hid (w1.heap[w.heap.size]? = some (.cells #[.slice none 0 0, .slice none 0 0, .int .i64 0, .bool false] 30 (0, 0))) := Lib.hid ((G.out.block _ (by have := HW.out.2.2.2.1; omega)).trans HW.out.1)
    have Hi9 : Hid ((Try.prog.info? 30).map (·.size) = some (#[.slice A1 m1 c1, .slice none 0 0, .int .i64 (-1), .bool false] : Array Value).size) := Lib.hid (by kernel_rfl)
    have H19 : Hid ((#[.slice A1 m1 c1, .slice none 0 0, .int .i64 (-1), .bool false] : Array Value).all (·.oneCell') = true) := Lib.hid (by simp [Value.oneCell'])
    go_wp2_with (refine wpList_store_row rfl 30 (.tmp 2) (.tmp 15) rfl w.heap.size #[.slice A1 m1 c1, .slice none 0 0, .int .i64 (-1), .bool false] rfl rfl 30 #[.slice none 0 0, .slice none 0 0, .int .i64 0, .bool false] R1.out Hi9.out rfl H19.out ?_)
    refine bodyPost_ret (v := .tuple #[.agg #[.slice A1 m1 c1, .slice none 0 0, .int .i64 (-1), .bool false], .int .i64 0]) ?_ rfl ?_
    · exact results_cell_row2 rfl _ _ w.heap.size 30 _ (0, 0) _ _ rfl rfl (setRow_heap _ _ _ _ _ _ R1.out) Try.underlying30 rfl (by kernel_rfl)
    · have hb1 : Below w.heap.size w w1 := HW.out.2.2.2.2.trans (G.out.mono HW.out.2.2.2.2.size)
      have hz := HW.out.2.2.2.1
      refine DskO.ans ⟨own_lo (own_same HO.out fun q hq => setRow_other _ _ q _ (by have := (own_wi HO.out q hq).1; omega)) (by omega), ou_none _ _, apart_none _⟩ (below_setRow hb1 (Nat.le_refl _) _)
end Go.Proofs.Ytpjkeikaonkohaa
