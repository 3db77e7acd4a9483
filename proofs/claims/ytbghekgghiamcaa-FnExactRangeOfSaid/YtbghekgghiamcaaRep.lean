/- Contract of slices.Repeat at one number, up to three times. No statement is proved here. -/
import Derived.Test.YtbghekgghiamcaaFoS
import Derived.Laws.CopyOwn
import Derived.Deep.RegionLaw
namespace Go.Proofs.Ytbghekgghiamcaa
open Go.RowKit
set_option linter.unusedVariables false
theorem mul_small (m : Nat) (hm : m = 0 ∨ m = 1 ∨ m = 2 ∨ m = 3) (w : World) : Calls Try.prog 91 #[.int .u64 1, .int .u64 (m : Int)] w (Quiet (.tuple #[.int .u64 0, .int .u64 (m : Int)]) w) := by
  rcases hm with rfl | rfl | rfl | rfl
  all_goals
    go_enter Try.func91, Try.ntmps91
    go_wp2_with (go_in)
    go_ret2
    exact ⟨rfl, rfl⟩
theorem splice_lt {cur cs : List Value} {off j : Nat} (h : j < off) (hl : off ≤ cur.length) : (splice cur off cs)[j]? = cur[j]? := by
  unfold splice
  rw [List.getElem?_append_left (by rw [List.length_take]; omega), List.getElem?_take_of_lt h]
theorem splice_mid {cur cs : List Value} {off j : Nat} (h1 : off ≤ j) (h2 : j < off + cs.length) (hl : off ≤ cur.length) : (splice cur off cs)[j]? = cs[j - off]? := by
  unfold splice
  rw [List.getElem?_append_right (by rw [List.length_take]; omega), List.length_take, Nat.min_eq_left hl, List.getElem?_append_left (by omega)]
theorem splice_len {cur cs : List Value} {off : Nat} (hl : off + cs.length ≤ cur.length) : (splice cur off cs).length = cur.length := by
  unfold splice
  simp
  omega
theorem rep_at {n j : Nat} {u v : Value} (h : (List.replicate n u)[j]? = some v) : j < n ∧ v = u := by
  rw [List.getElem?_replicate] at h
  split at h
  · exact ⟨‹_›, (Option.some.inj h).symm⟩
  · cases h
def PosC (cs : List Value) (dp sp : Option Addr) (g off : Nat) (w : World) : Prop := 0 < cs.length → dp = some ⟨g, off, none⟩ ∧ ∃ ad, sp = some ad ∧ ∀ j v, cs[j]? = some v → w.cell? (ad.add j) = some v
theorem one_of (x : Int) : ∀ v ∈ ([Value.int .i64 x] : List Value), v.oneCell' = true := by
  intro v hv
  rw [List.mem_singleton] at hv
  subst hv
  rfl
theorem Try.infoI0 : (Try.prog.info? 2).map (·.size) = some 1 := by kernel_rfl
set_option maxHeartbeats 2000000 in
set_option maxRecDepth 100000 in
theorem repeat_0 (x : Int) (w : World) (b : Nat) (hcell : w.cell? ⟨b, 0, none⟩ = some (.int .i64 x)) :
    Calls Try.prog 88 #[.slice (some ⟨b, 0, none⟩) 1 1, .int .i64 0] w fun e w' => e = .returned (.slice (some ⟨w.heap.size, 0, none⟩) 0 0) ∧ Row w' w.heap.size (List.replicate 0 x) ∧ Below w.heap.size w w' := by
  obtain ⟨C, hC, hmk⟩ := make_all (P := Try.prog) 79 2 0 1 8 Try.underlying79 Try.infoI (by omega) (by omega)
  have hb := (spot_none hcell).2
  have HC := Lib.hid hC
  have HM : Hid (∀ w : World, Calls Try.prog 91 #[.int .u64 1, .int .u64 0] w (Quiet (.tuple #[.int .u64 0, .int .u64 0]) w)) := Lib.hid (mul_small 0 (by omega))
  have HB0 : Hid (Below w.heap.size w (w.alloc (.cells C 2))) := Lib.hid ((Below.refl _ w).alloc (Nat.le_refl _) _)
  have HR0 : Hid ((w.alloc (.cells C 2)).heap[w.heap.size]? = some (.cells C.toList.toArray 2 (0, 0))) := Lib.hid (by simpa using heap_alloc_new w _)
  have HSrc : Hid ((w.alloc (.cells C 2)).cell? ⟨b, 0, none⟩ = some (.int .i64 x)) := Lib.hid (by rw [HB0.out.cell (p := ⟨b, 0, none⟩) hb]; exact hcell)
  have Hp1 : Hid (PosC ([] : List Value) (some ⟨w.heap.size, 0, none⟩) (some ⟨b, 0, none⟩) w.heap.size 0 (w.alloc (.cells C 2))) := Lib.hid (fun h => absurd h (by simp))
  have Hcl : Hid (C.toList.length = 0) := Lib.hid (by have := HC.out; rw [Array.length_toList]; omega)
  have Hf1 : Hid (0 + (([] : List Value)).length ≤ C.toList.length) := Lib.hid (by rw [Hcl.out]; simp)
  have Ho1 : Hid (∀ v ∈ ([] : List Value), v.oneCell' = true) := Lib.hid (fun v hv => by cases hv)
  have hmk2 : ∀ w : World, (Instr.makeSlice 79 (.int .i64 0) (.int .i64 0)).run Try.prog w = .ok (.slice (some ⟨w.heap.size, 0, none⟩) 0 0) (w.alloc (.cells C 2)) := hmk
  clear hmk
  clear hC hcell
  go_enter Try.func88, Try.ntmps88
  go_wp2_with (first | (go_at_call 91; (with_reducible refine (HM.out _).mono ?_); rintro e w' ⟨rfl, rfl⟩) | (refine wpList_copy_splice rfl (.tmp 31) (.tmp 32) 79 79 rfl 2 Try.underlying79 Try.infoI0 _ _ _ _ _ _ rfl rfl w.heap.size 0 C.toList 2 HR0.out ([] : List Value) rfl Hp1.out Hf1.out Ho1.out w.heap.size w HB0.out (Nat.le_refl _) ?_))
  intro w1 hg1 hb1
  have Hb1 := Lib.hid hb1
  have Hg1 := hg1
  clear hb1
  go_wp2
  go_loopw [8] (fun i wr => ∃ (k : Nat) (cur : List Value), 0 ≤ k ∧ k ≤ 0 ∧ i = .int .i64 (k : Int) ∧ wr.heap[w.heap.size]? = some (.cells cur.toArray 2 (0, 0)) ∧ cur.length = 0 ∧ (∀ j, j < k → cur[j]? = some (.int .i64 x)) ∧ Below w.heap.size w wr) (fun i _ => 0 - (intOf i).toNat)
  case atStart =>
    refine ⟨0, splice C.toList 0 ([] : List Value), by omega, by omega, rfl, Hg1.out, ?_, ?_, Hb1.out⟩
    · rw [splice_len Hf1.out]; exact Hcl.out
    · intro j hj
      omega
  case round =>
    obtain ⟨k, cur, hk1, hk, rfl, hrow, hcl, hall, hbel⟩ := hrel
    have Hall := Lib.hid hall; have Hbel := Lib.hid hbel; have Hrow := Lib.hid hrow; have Hcl2 := Lib.hid hcl
    clear hall hbel hrow hcl
    have hcs : k = 0 := by omega
    rcases hcs with rfl
    · have HF : Hid (Row wr w.heap.size (List.replicate 0 x)) := Lib.hid (by
        unfold Row
        rw [Hrow.out]
        congr 2
        have : cur = (List.replicate 0 x).map (Value.int .i64) := by
          apply List.ext_getElem (by simp [Hcl2.out])
          intro j h1 h2
          have := Hall.out j (by have := Hcl2.out; omega)
          rw [List.getElem?_eq_getElem h1] at this
          rw [Option.some.inj this, List.getElem_map, List.getElem_replicate]
        rw [this, cellsI])
      go_wp2
      go_ret
      exact ⟨rfl, HF.out, Hbel.out⟩
set_option maxHeartbeats 2000000 in
set_option maxRecDepth 100000 in
theorem repeat_1 (x : Int) (w : World) (b : Nat) (hcell : w.cell? ⟨b, 0, none⟩ = some (.int .i64 x)) :
    Calls Try.prog 88 #[.slice (some ⟨b, 0, none⟩) 1 1, .int .i64 1] w fun e w' => e = .returned (.slice (some ⟨w.heap.size, 0, none⟩) 1 1) ∧ Row w' w.heap.size (List.replicate 1 x) ∧ Below w.heap.size w w' := by
  obtain ⟨C, hC, hmk⟩ := make_all (P := Try.prog) 79 2 1 1 8 Try.underlying79 Try.infoI (by omega) (by omega)
  have hb := (spot_none hcell).2
  have HC := Lib.hid hC
  have HM : Hid (∀ w : World, Calls Try.prog 91 #[.int .u64 1, .int .u64 1] w (Quiet (.tuple #[.int .u64 0, .int .u64 1]) w)) := Lib.hid (mul_small 1 (by omega))
  have HB0 : Hid (Below w.heap.size w (w.alloc (.cells C 2))) := Lib.hid ((Below.refl _ w).alloc (Nat.le_refl _) _)
  have HR0 : Hid ((w.alloc (.cells C 2)).heap[w.heap.size]? = some (.cells C.toList.toArray 2 (0, 0))) := Lib.hid (by simpa using heap_alloc_new w _)
  have HSrc : Hid ((w.alloc (.cells C 2)).cell? ⟨b, 0, none⟩ = some (.int .i64 x)) := Lib.hid (by rw [HB0.out.cell (p := ⟨b, 0, none⟩) hb]; exact hcell)
  have Hp1 : Hid (PosC ([Value.int .i64 x] : List Value) (some ⟨w.heap.size, 0, none⟩) (some ⟨b, 0, none⟩) w.heap.size 0 (w.alloc (.cells C 2))) := Lib.hid (fun h => ⟨rfl, _, rfl, fun j v hj => by
    rcases j with _ | j
    · obtain rfl : Value.int .i64 x = v := by simpa using hj
      exact HSrc.out
    · simp at hj⟩)
  have Hcl : Hid (C.toList.length = 1) := Lib.hid (by have := HC.out; rw [Array.length_toList]; omega)
  have Hf1 : Hid (0 + (([Value.int .i64 x] : List Value)).length ≤ C.toList.length) := Lib.hid (by rw [Hcl.out]; simp)
  have Ho1 : Hid (∀ v ∈ ([Value.int .i64 x] : List Value), v.oneCell' = true) := Lib.hid (one_of x)
  have hmk2 : ∀ w : World, (Instr.makeSlice 79 (.int .i64 1) (.int .i64 1)).run Try.prog w = .ok (.slice (some ⟨w.heap.size, 0, none⟩) 1 1) (w.alloc (.cells C 2)) := hmk
  clear hmk
  clear hC hcell
  go_enter Try.func88, Try.ntmps88
  go_wp2_with (first | (go_at_call 91; (with_reducible refine (HM.out _).mono ?_); rintro e w' ⟨rfl, rfl⟩) | (refine wpList_copy_splice rfl (.tmp 31) (.tmp 32) 79 79 rfl 2 Try.underlying79 Try.infoI0 _ _ _ _ _ _ rfl rfl w.heap.size 0 C.toList 2 HR0.out ([Value.int .i64 x] : List Value) rfl Hp1.out Hf1.out Ho1.out w.heap.size w HB0.out (Nat.le_refl _) ?_))
  intro w1 hg1 hb1
  have Hb1 := Lib.hid hb1
  have Hg1 := hg1
  clear hb1
  go_wp2
  go_loopw [8] (fun i wr => ∃ (k : Nat) (cur : List Value), 1 ≤ k ∧ k ≤ 1 ∧ i = .int .i64 (k : Int) ∧ wr.heap[w.heap.size]? = some (.cells cur.toArray 2 (0, 0)) ∧ cur.length = 1 ∧ (∀ j, j < k → cur[j]? = some (.int .i64 x)) ∧ Below w.heap.size w wr) (fun i _ => 1 - (intOf i).toNat)
  case atStart =>
    refine ⟨1, splice C.toList 0 ([Value.int .i64 x] : List Value), by omega, by omega, rfl, Hg1.out, ?_, ?_, Hb1.out⟩
    · rw [splice_len Hf1.out]; exact Hcl.out
    · intro j hj
      obtain rfl : j = 0 := by omega
      rw [splice_mid (Nat.le_refl _) (by simp) (by simp)]; rfl
  case round =>
    obtain ⟨k, cur, hk1, hk, rfl, hrow, hcl, hall, hbel⟩ := hrel
    have Hall := Lib.hid hall; have Hbel := Lib.hid hbel; have Hrow := Lib.hid hrow; have Hcl2 := Lib.hid hcl
    clear hall hbel hrow hcl
    have hcs : k = 1 := by omega
    rcases hcs with rfl
    · have HF : Hid (Row wr w.heap.size (List.replicate 1 x)) := Lib.hid (by
        unfold Row
        rw [Hrow.out]
        congr 2
        have : cur = (List.replicate 1 x).map (Value.int .i64) := by
          apply List.ext_getElem (by simp [Hcl2.out])
          intro j h1 h2
          have := Hall.out j (by have := Hcl2.out; omega)
          rw [List.getElem?_eq_getElem h1] at this
          rw [Option.some.inj this, List.getElem_map, List.getElem_replicate]
        rw [this, cellsI])
      go_wp2
      go_ret
      exact ⟨rfl, HF.out, Hbel.out⟩
set_option maxHeartbeats 2000000 in
set_option maxRecDepth 100000 in
theorem repeat_2 (x : Int) (w : World) (b : Nat) (hcell : w.cell? ⟨b, 0, none⟩ = some (.int .i64 x)) :
    Calls Try.prog 88 #[.slice (some ⟨b, 0, none⟩) 1 1, .int .i64 2] w fun e w' => e = .returned (.slice (some ⟨w.heap.size, 0, none⟩) 2 2) ∧ Row w' w.heap.size (List.replicate 2 x) ∧ Below w.heap.size w w' := by
  obtain ⟨C, hC, hmk⟩ := make_all (P := Try.prog) 79 2 2 1 8 Try.underlying79 Try.infoI (by omega) (by omega)
  have hb := (spot_none hcell).2
  have HC := Lib.hid hC
  have HM : Hid (∀ w : World, Calls Try.prog 91 #[.int .u64 1, .int .u64 2] w (Quiet (.tuple #[.int .u64 0, .int .u64 2]) w)) := Lib.hid (mul_small 2 (by omega))
  have HB0 : Hid (Below w.heap.size w (w.alloc (.cells C 2))) := Lib.hid ((Below.refl _ w).alloc (Nat.le_refl _) _)
  have HR0 : Hid ((w.alloc (.cells C 2)).heap[w.heap.size]? = some (.cells C.toList.toArray 2 (0, 0))) := Lib.hid (by simpa using heap_alloc_new w _)
  have HSrc : Hid ((w.alloc (.cells C 2)).cell? ⟨b, 0, none⟩ = some (.int .i64 x)) := Lib.hid (by rw [HB0.out.cell (p := ⟨b, 0, none⟩) hb]; exact hcell)
  have Hp1 : Hid (PosC ([Value.int .i64 x] : List Value) (some ⟨w.heap.size, 0, none⟩) (some ⟨b, 0, none⟩) w.heap.size 0 (w.alloc (.cells C 2))) := Lib.hid (fun h => ⟨rfl, _, rfl, fun j v hj => by
    rcases j with _ | j
    · obtain rfl : Value.int .i64 x = v := by simpa using hj
      exact HSrc.out
    · simp at hj⟩)
  have Hcl : Hid (C.toList.length = 2) := Lib.hid (by have := HC.out; rw [Array.length_toList]; omega)
  have Hf1 : Hid (0 + (([Value.int .i64 x] : List Value)).length ≤ C.toList.length) := Lib.hid (by rw [Hcl.out]; simp)
  have Ho1 : Hid (∀ v ∈ ([Value.int .i64 x] : List Value), v.oneCell' = true) := Lib.hid (one_of x)
  have hmk2 : ∀ w : World, (Instr.makeSlice 79 (.int .i64 2) (.int .i64 2)).run Try.prog w = .ok (.slice (some ⟨w.heap.size, 0, none⟩) 2 2) (w.alloc (.cells C 2)) := hmk
  clear hmk
  clear hC hcell
  go_enter Try.func88, Try.ntmps88
  go_wp2_with (first | (go_at_call 91; (with_reducible refine (HM.out _).mono ?_); rintro e w' ⟨rfl, rfl⟩) | (refine wpList_copy_splice rfl (.tmp 31) (.tmp 32) 79 79 rfl 2 Try.underlying79 Try.infoI0 _ _ _ _ _ _ rfl rfl w.heap.size 0 C.toList 2 HR0.out ([Value.int .i64 x] : List Value) rfl Hp1.out Hf1.out Ho1.out w.heap.size w HB0.out (Nat.le_refl _) ?_))
  intro w1 hg1 hb1
  have Hb1 := Lib.hid hb1
  have Hg1 := hg1
  clear hb1
  go_wp2
  go_loopw [8] (fun i wr => ∃ (k : Nat) (cur : List Value), 1 ≤ k ∧ k ≤ 2 ∧ i = .int .i64 (k : Int) ∧ wr.heap[w.heap.size]? = some (.cells cur.toArray 2 (0, 0)) ∧ cur.length = 2 ∧ (∀ j, j < k → cur[j]? = some (.int .i64 x)) ∧ Below w.heap.size w wr) (fun i _ => 2 - (intOf i).toNat)
  case atStart =>
    refine ⟨1, splice C.toList 0 ([Value.int .i64 x] : List Value), by omega, by omega, rfl, Hg1.out, ?_, ?_, Hb1.out⟩
    · rw [splice_len Hf1.out]; exact Hcl.out
    · intro j hj
      obtain rfl : j = 0 := by omega
      rw [splice_mid (Nat.le_refl _) (by simp) (by simp)]; rfl
  case round =>
    obtain ⟨k, cur, hk1, hk, rfl, hrow, hcl, hall, hbel⟩ := hrel
    have Hall := Lib.hid hall; have Hbel := Lib.hid hbel; have Hrow := Lib.hid hrow; have Hcl2 := Lib.hid hcl
    clear hall hbel hrow hcl
    have hcs : k = 1 ∨ k = 2 := by omega
    rcases hcs with rfl | rfl
    · have Hp2 : Hid (PosC [Value.int .i64 x] (some ⟨w.heap.size, 1, none⟩) (some ⟨w.heap.size, 0, none⟩) w.heap.size 1 wr.drew) := Lib.hid (fun _ => ⟨rfl, _, rfl, fun j v hj => by
        rcases j with _ | j
        · obtain rfl : Value.int .i64 x = v := by simpa using hj
          have h2 := Hall.out 0 (by omega)
          show wr.cell? ⟨w.heap.size, 0, none⟩ = _
          rw [cell_of_row _ _ _ _ _ _ Hrow.out]
          simpa using h2
        · simp at hj⟩)
      have Hf2 : Hid (1 + [Value.int .i64 x].length ≤ cur.length) := Lib.hid (by rw [Hcl2.out]; simp)
      have Ho2 : Hid (∀ v ∈ [Value.int .i64 x], v.oneCell' = true) := Lib.hid (one_of x)
      have Hrow2 : Hid (wr.drew.heap[w.heap.size]? = some (.cells cur.toArray 2 (0, 0))) := Hrow
      have Hbel2 : Hid (Below w.heap.size w wr.drew) := Lib.hid Hbel.out.drew
      go_wp2
      go_region_law (refine step_copy_splice (g := w.heap.size) (off := 1) (cur := cur) (t := 2) (cs := [Value.int .i64 x]) (B := w.heap.size) (w0 := w) ?k1 (.tmp 41) (.tmp 44) 79 79 ?k2 2 Try.underlying79 Try.infoI0 (some ⟨w.heap.size, 1, none⟩) (some ⟨w.heap.size, 0, none⟩) 1 1 1 2 ?k3 ?k4 (hg := ?k5) (hn := ?k6) (hpos := ?k7) (hfit := ?k8) (h1 := ?k9) (hb := ?k10) (hBg := ?k11) (h := ?k12); (case k1 => rfl); (case k2 => rfl); (case k3 => go_simp); (case k4 => go_simp); (case k5 => exact Hrow2.out); (case k6 => rfl); (case k7 => exact Hp2.out); (case k8 => exact Hf2.out); (case k9 => exact Ho2.out); (case k10 => exact Hbel2.out); (case k11 => exact Nat.le_refl _); intro w2 hg2 hb2)
      have Hg2 := hg2
      have Hb2 := Lib.hid hb2
      clear hb2
      have wr2 : IntKind.i64.wrap 2 = 2 := by decide
      have wr3 : IntKind.i64.wrap 3 = 3 := by decide
      try simp only [Exit.then]
      try go_simp
      try go_wp2
      go_roundw
      case rel =>
        refine ⟨2, splice cur 1 [Value.int .i64 x], by omega, by omega, rfl, Hg2.out, ?_, ?_, Hb2.out⟩
        · rw [splice_len Hf2.out]; exact Hcl2.out
        · intro j hj
          rcases Nat.lt_or_ge j 1 with h | h
          · rw [splice_lt h (by rw [Hcl2.out]; omega)]; exact Hall.out j h
          · obtain rfl : j = 1 := by omega
            rw [splice_mid (Nat.le_refl _) (by simp) (by rw [Hcl2.out]; omega)]; simp
      case measure => simp [intOf]
    · have HF : Hid (Row wr w.heap.size (List.replicate 2 x)) := Lib.hid (by
        unfold Row
        rw [Hrow.out]
        congr 2
        have : cur = (List.replicate 2 x).map (Value.int .i64) := by
          apply List.ext_getElem (by simp [Hcl2.out])
          intro j h1 h2
          have := Hall.out j (by have := Hcl2.out; omega)
          rw [List.getElem?_eq_getElem h1] at this
          rw [Option.some.inj this, List.getElem_map, List.getElem_replicate]
        rw [this, cellsI])
      go_wp2
      go_ret
      exact ⟨rfl, HF.out, Hbel.out⟩
set_option maxHeartbeats 2000000 in
set_option maxRecDepth 100000 in
theorem repeat_3 (x : Int) (w : World) (b : Nat) (hcell : w.cell? ⟨b, 0, none⟩ = some (.int .i64 x)) :
    Calls Try.prog 88 #[.slice (some ⟨b, 0, none⟩) 1 1, .int .i64 3] w fun e w' => e = .returned (.slice (some ⟨w.heap.size, 0, none⟩) 3 3) ∧ Row w' w.heap.size (List.replicate 3 x) ∧ Below w.heap.size w w' := by
  obtain ⟨C, hC, hmk⟩ := make_all (P := Try.prog) 79 2 3 1 8 Try.underlying79 Try.infoI (by omega) (by omega)
  have hb := (spot_none hcell).2
  have HC := Lib.hid hC
  have HM : Hid (∀ w : World, Calls Try.prog 91 #[.int .u64 1, .int .u64 3] w (Quiet (.tuple #[.int .u64 0, .int .u64 3]) w)) := Lib.hid (mul_small 3 (by omega))
  have HB0 : Hid (Below w.heap.size w (w.alloc (.cells C 2))) := Lib.hid ((Below.refl _ w).alloc (Nat.le_refl _) _)
  have HR0 : Hid ((w.alloc (.cells C 2)).heap[w.heap.size]? = some (.cells C.toList.toArray 2 (0, 0))) := Lib.hid (by simpa using heap_alloc_new w _)
  have HSrc : Hid ((w.alloc (.cells C 2)).cell? ⟨b, 0, none⟩ = some (.int .i64 x)) := Lib.hid (by rw [HB0.out.cell (p := ⟨b, 0, none⟩) hb]; exact hcell)
  have Hp1 : Hid (PosC ([Value.int .i64 x] : List Value) (some ⟨w.heap.size, 0, none⟩) (some ⟨b, 0, none⟩) w.heap.size 0 (w.alloc (.cells C 2))) := Lib.hid (fun h => ⟨rfl, _, rfl, fun j v hj => by
    rcases j with _ | j
    · obtain rfl : Value.int .i64 x = v := by simpa using hj
      exact HSrc.out
    · simp at hj⟩)
  have Hcl : Hid (C.toList.length = 3) := Lib.hid (by have := HC.out; rw [Array.length_toList]; omega)
  have Hf1 : Hid (0 + (([Value.int .i64 x] : List Value)).length ≤ C.toList.length) := Lib.hid (by rw [Hcl.out]; simp)
  have Ho1 : Hid (∀ v ∈ ([Value.int .i64 x] : List Value), v.oneCell' = true) := Lib.hid (one_of x)
  have hmk2 : ∀ w : World, (Instr.makeSlice 79 (.int .i64 3) (.int .i64 3)).run Try.prog w = .ok (.slice (some ⟨w.heap.size, 0, none⟩) 3 3) (w.alloc (.cells C 2)) := hmk
  clear hmk
  clear hC hcell
  go_enter Try.func88, Try.ntmps88
  go_wp2_with (first | (go_at_call 91; (with_reducible refine (HM.out _).mono ?_); rintro e w' ⟨rfl, rfl⟩) | (refine wpList_copy_splice rfl (.tmp 31) (.tmp 32) 79 79 rfl 2 Try.underlying79 Try.infoI0 _ _ _ _ _ _ rfl rfl w.heap.size 0 C.toList 2 HR0.out ([Value.int .i64 x] : List Value) rfl Hp1.out Hf1.out Ho1.out w.heap.size w HB0.out (Nat.le_refl _) ?_))
  intro w1 hg1 hb1
  have Hb1 := Lib.hid hb1
  have Hg1 := hg1
  clear hb1
  go_wp2
  go_loopw [8] (fun i wr => ∃ (k : Nat) (cur : List Value), 1 ≤ k ∧ k ≤ 3 ∧ i = .int .i64 (k : Int) ∧ wr.heap[w.heap.size]? = some (.cells cur.toArray 2 (0, 0)) ∧ cur.length = 3 ∧ (∀ j, j < k → cur[j]? = some (.int .i64 x)) ∧ Below w.heap.size w wr) (fun i _ => 3 - (intOf i).toNat)
  case atStart =>
    refine ⟨1, splice C.toList 0 ([Value.int .i64 x] : List Value), by omega, by omega, rfl, Hg1.out, ?_, ?_, Hb1.out⟩
    · rw [splice_len Hf1.out]; exact Hcl.out
    · intro j hj
      obtain rfl : j = 0 := by omega
      rw [splice_mid (Nat.le_refl _) (by simp) (by simp)]; rfl
  case round =>
    obtain ⟨k, cur, hk1, hk, rfl, hrow, hcl, hall, hbel⟩ := hrel
    have Hall := Lib.hid hall; have Hbel := Lib.hid hbel; have Hrow := Lib.hid hrow; have Hcl2 := Lib.hid hcl
    clear hall hbel hrow hcl
    have hcs : k = 1 ∨ k = 2 ∨ k = 3 := by omega
    rcases hcs with rfl | rfl | rfl
    · have Hp2 : Hid (PosC [Value.int .i64 x] (some ⟨w.heap.size, 1, none⟩) (some ⟨w.heap.size, 0, none⟩) w.heap.size 1 wr.drew) := Lib.hid (fun _ => ⟨rfl, _, rfl, fun j v hj => by
        rcases j with _ | j
        · obtain rfl : Value.int .i64 x = v := by simpa using hj
          have h2 := Hall.out 0 (by omega)
          show wr.cell? ⟨w.heap.size, 0, none⟩ = _
          rw [cell_of_row _ _ _ _ _ _ Hrow.out]
          simpa using h2
        · simp at hj⟩)
      have Hf2 : Hid (1 + [Value.int .i64 x].length ≤ cur.length) := Lib.hid (by rw [Hcl2.out]; simp)
      have Ho2 : Hid (∀ v ∈ [Value.int .i64 x], v.oneCell' = true) := Lib.hid (one_of x)
      have Hrow2 : Hid (wr.drew.heap[w.heap.size]? = some (.cells cur.toArray 2 (0, 0))) := Hrow
      have Hbel2 : Hid (Below w.heap.size w wr.drew) := Lib.hid Hbel.out.drew
      go_wp2
      go_region_law (refine step_copy_splice (g := w.heap.size) (off := 1) (cur := cur) (t := 2) (cs := [Value.int .i64 x]) (B := w.heap.size) (w0 := w) ?k1 (.tmp 41) (.tmp 44) 79 79 ?k2 2 Try.underlying79 Try.infoI0 (some ⟨w.heap.size, 1, none⟩) (some ⟨w.heap.size, 0, none⟩) 2 2 1 3 ?k3 ?k4 (hg := ?k5) (hn := ?k6) (hpos := ?k7) (hfit := ?k8) (h1 := ?k9) (hb := ?k10) (hBg := ?k11) (h := ?k12); (try case k1 => rfl); (try case k2 => rfl); (case k3 => (first | go_simp | simp [go_sem])); (case k4 => (first | go_simp | simp [go_sem])); (try case k5 => exact Hrow2.out); (try case k6 => rfl); (try case k7 => exact Hp2.out); (try case k8 => exact Hf2.out); (try case k9 => exact Ho2.out); (try case k10 => exact Hbel2.out); (try case k11 => exact Nat.le_refl _); intro w2 hg2 hb2)
      have Hg2 := hg2
      have Hb2 := Lib.hid hb2
      clear hb2
      have wr2 : IntKind.i64.wrap 2 = 2 := by decide
      have wr3 : IntKind.i64.wrap 3 = 3 := by decide
      try simp only [Exit.then]
      try go_simp
      try go_wp2
      go_roundw
      case rel =>
        refine ⟨2, splice cur 1 [Value.int .i64 x], by omega, by omega, rfl, Hg2.out, ?_, ?_, Hb2.out⟩
        · rw [splice_len Hf2.out]; exact Hcl2.out
        · intro j hj
          rcases Nat.lt_or_ge j 1 with h | h
          · rw [splice_lt h (by rw [Hcl2.out]; omega)]; exact Hall.out j h
          · obtain rfl : j = 1 := by omega
            rw [splice_mid (Nat.le_refl _) (by simp) (by rw [Hcl2.out]; omega)]; simp
      case measure => simp [intOf]
    · have Hp2 : Hid (PosC [Value.int .i64 x] (some ⟨w.heap.size, 2, none⟩) (some ⟨w.heap.size, 0, none⟩) w.heap.size 2 wr.drew) := Lib.hid (fun _ => ⟨rfl, _, rfl, fun j v hj => by
        rcases j with _ | j
        · obtain rfl : Value.int .i64 x = v := by simpa using hj
          have h2 := Hall.out 0 (by omega)
          show wr.cell? ⟨w.heap.size, 0, none⟩ = _
          rw [cell_of_row _ _ _ _ _ _ Hrow.out]
          simpa using h2
        · simp at hj⟩)
      have Hf2 : Hid (2 + [Value.int .i64 x].length ≤ cur.length) := Lib.hid (by rw [Hcl2.out]; simp)
      have Ho2 : Hid (∀ v ∈ [Value.int .i64 x], v.oneCell' = true) := Lib.hid (one_of x)
      have Hrow2 : Hid (wr.drew.heap[w.heap.size]? = some (.cells cur.toArray 2 (0, 0))) := Hrow
      have Hbel2 : Hid (Below w.heap.size w wr.drew) := Lib.hid Hbel.out.drew
      go_wp2
      go_region_law (refine step_copy_splice (g := w.heap.size) (off := 2) (cur := cur) (t := 2) (cs := [Value.int .i64 x]) (B := w.heap.size) (w0 := w) ?q1 (.tmp 41) (.tmp 44) 79 79 ?q2 2 Try.underlying79 Try.infoI0 (some ⟨w.heap.size, 2, none⟩) (some ⟨w.heap.size, 0, none⟩) 1 1 2 3 ?q3 ?q4 (hg := ?q5) (hn := ?q6) (hpos := ?q7) (hfit := ?q8) (h1 := ?q9) (hb := ?q10) (hBg := ?q11) (h := ?q12); (try case q1 => rfl); (try case q2 => rfl); (case q3 => (first | go_simp | simp [go_sem])); (case q4 => (first | go_simp | simp [go_sem])); (try case q5 => exact Hrow2.out); (try case q6 => rfl); (try case q7 => exact Hp2.out); (try case q8 => exact Hf2.out); (try case q9 => exact Ho2.out); (try case q10 => exact Hbel2.out); (try case q11 => exact Nat.le_refl _); intro w2 hg2 hb2)
      have Hg2 := hg2
      have Hb2 := Lib.hid hb2
      clear hb2
      have wr2 : IntKind.i64.wrap 2 = 2 := by decide
      have wr3 : IntKind.i64.wrap 3 = 3 := by decide
      try simp only [Exit.then]
      try go_simp
      try go_wp2
      go_roundw
      case rel =>
        refine ⟨3, splice cur 2 [Value.int .i64 x], by omega, by omega, rfl, Hg2.out, ?_, ?_, Hb2.out⟩
        · rw [splice_len Hf2.out]; exact Hcl2.out
        · intro j hj
          rcases Nat.lt_or_ge j 2 with h | h
          · rw [splice_lt h (by rw [Hcl2.out]; omega)]; exact Hall.out j h
          · obtain rfl : j = 2 := by omega
            rw [splice_mid (Nat.le_refl _) (by simp) (by rw [Hcl2.out]; omega)]; simp
      case measure => simp [intOf]
    · have HF : Hid (Row wr w.heap.size (List.replicate 3 x)) := Lib.hid (by
        unfold Row
        rw [Hrow.out]
        congr 2
        have : cur = (List.replicate 3 x).map (Value.int .i64) := by
          apply List.ext_getElem (by simp [Hcl2.out])
          intro j h1 h2
          have := Hall.out j (by have := Hcl2.out; omega)
          rw [List.getElem?_eq_getElem h1] at this
          rw [Option.some.inj this, List.getElem_map, List.getElem_replicate]
        rw [this, cellsI])
      go_wp2
      go_ret
      exact ⟨rfl, HF.out, Hbel.out⟩
/-- What slices.Repeat gives, for all counts up to three. -/
theorem repeat_any (m : Nat) (hm : m ≤ 3) (x : Int) (w : World) (b : Nat) (hcell : w.cell? ⟨b, 0, none⟩ = some (.int .i64 x)) :
    Calls Try.prog 88 #[.slice (some ⟨b, 0, none⟩) 1 1, .int .i64 (m : Int)] w fun e w' => e = .returned (.slice (some ⟨w.heap.size, 0, none⟩) m m) ∧ Row w' w.heap.size (List.replicate m x) ∧ Below w.heap.size w w' := by
  have h : m = 0 ∨ m = 1 ∨ m = 2 ∨ m = 3 := by omega
  rcases h with rfl | rfl | rfl | rfl
  · exact repeat_0 x w b hcell
  · exact repeat_1 x w b hcell
  · exact repeat_2 x w b hcell
  · exact repeat_3 x w b hcell
end Go.Proofs.Ytbghekgghiamcaa
