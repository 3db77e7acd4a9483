/- The program's DecodeSuper. No statement is proved here. -/
import Derived.Test.YtlickjmdlooapaaDcE
import Derived.Test.YtlickjmdlooapaaDcP
import Derived.Test.YtlickjmdlooapaaHeld
import Derived.Deep.MidRow
import Derived.Deep.DeepFit
import Derived.Deep.RegionHeld3
namespace Go.Proofs.Ytlickjmdlooapaa
open Go.RowKit
set_option linter.unusedVariables false
theorem hcA_size {h : ByteArray} (hz : h.size = 32) : (hcA h).size = 32 := by
  unfold hcA
  rw [List.size_toArray]
  simp only [Lib.byteCells, List.length_map]
  rw [← hz]; simp
theorem hcA_info {h : ByteArray} (hz : h.size = 32) : (Try.prog.info? 167).map (·.size) = some (hcA h).size := by
  rw [hcA_size hz]
  kernel_rfl
theorem halfC_hcA (n0 n1 n2 n3 : Int) : halfC n0 n1 n2 n3 = hcA (supP n0 n1 n2 n3) := rfl
theorem row_all (Z : Array Value) (hZ : Z.size = 32) (X : List Value) : (Z.toList.take 0 ++ X ++ Z.toList.drop (0 + 32)).toArray = X.toArray := by
  rw [List.take_zero, List.nil_append, List.drop_eq_nil_of_le (by simp [hZ]), List.append_nil]
theorem range_row {W : World} {b : Nat} {L : List Value} {t : TypeId} (h : W.heap[b]? = some (.cells L.toArray t (0, 0))) : W.rangeAt b 0 L := fun j v hv => by
  rw [Nat.zero_add, cell_of_row _ _ _ _ _ _ h]
  simpa using hv
theorem ext_hf2 {s : ByteArray} (hz : s.size = 64) : s.extract 32 64 = hf2 s := by
  have hl : s.data.toList.length = 64 := by simpa using hz
  apply ByteArray.ext
  apply Array.toList_inj.1
  simp [hf2]
  rw [List.take_of_length_le (by simp; omega)]
theorem held_mid (i : Nat) (d : Option Tmp) {P : Program} {ops : Array Oper} {Q : Exit → Act → World → Prop} {S : World → Prop} {oi : Oper} {v : Value} {fuel : Nat} {listed : Array Bool} {a : Act} {w : World} (hi : ops[i]? = some oi) (hd : oi.dst = d)
    (hs : Region.noSelect ops = true) (hf : Region.free .any ops listed i = true) (hr : (Region.ready .any ops listed).contains i = true)
    (hQ : ∀ c a w, Q (.panic c) (a.put d v) w → Q (.panic c) a w) (hy : YieldsIf P ops S oi v a) (hS : S w)
    (h : wpAnyH P .any ops Q S fuel (listed.setIfInBounds i true) (a.put d v) w) : wpAnyH P .any ops Q S (fuel + 1) listed a w := by
  subst hd
  exact wpAnyH_take hi hs hf hr hQ hy hS h
set_option maxHeartbeats 4000000 in
set_option maxRecDepth 100000 in
theorem implDecodeSuper_any (s : ByteArray) (hs : s.size ≤ 1048576) (w : World) :
    Calls Try.prog 53 #[.string s] w (GivesB (.tuple #[.agg (dcA s), .bool (dcY s)]) w) := by
  have R0 : Hid ((w.alloc (.cells #[.int .i64 0, .int .i64 0, .int .i64 0, .int .i64 0] 39)).heap[w.heap.size]? = some (.cells #[.int .i64 0, .int .i64 0, .int .i64 0, .int .i64 0] 39 (0, 0))) := Lib.hid (heap_alloc_new w _)
  have Hb0 : Hid (Below w.heap.size w (w.alloc (.cells #[.int .i64 0, .int .i64 0, .int .i64 0, .int .i64 0] 39))) := Lib.hid ((Below.refl _ w).alloc (Nat.le_refl _) _)
  by_cases hz : s.size = 64
  rotate_left
  · have E : Hid (dcA s = #[.int .i64 0, .int .i64 0, .int .i64 0, .int .i64 0] ∧ dcY s = false) := Lib.hid (by
      have : dcY s = false := by simp [dcY, hz]
      exact ⟨by simp [dcA, this], this⟩)
    have h1 : ((s.size : Int) != 64) = true := by simp; omega
    clear hz
    go_enter Try.func53, Try.ntmps53
    go_wp2_with (refine wpList_store_row rfl 39 (.tmp 2) (.tmp 10) rfl w.heap.size #[.int .i64 0, .int .i64 0, .int .i64 0, .int .i64 0] rfl rfl 39 _ R0.out (infoS4 _ _ _ _) rfl oneS4 ?_)
    refine bodyPost_ret (v := .tuple #[.agg #[.int .i64 0, .int .i64 0, .int .i64 0, .int .i64 0], .bool false]) ?_ rfl ?_
    · exact results_cell_row2 rfl _ _ w.heap.size 39 _ (0, 0) _ _ rfl rfl (setRow_heap _ _ _ _ _ _ R0.out) Try.underlying39 rfl (by kernel_rfl)
    · exact ⟨by rw [E.out.1, E.out.2], below_setRow Hb0.out (Nat.le_refl _) _⟩
  have h1 : ((s.size : Int) != 64) = false := by simp; omega
  have hle : ¬ ((s.size : Int) < 32) := by omega
  have HW := Lib.hid (rows3 w (.cells #[.int .i64 0, .int .i64 0, .int .i64 0, .int .i64 0] 39) (.cells #[.int .u8 0, .int .u8 0, .int .u8 0, .int .u8 0, .int .u8 0, .int .u8 0, .int .u8 0, .int .u8 0, .int .u8 0, .int .u8 0, .int .u8 0, .int .u8 0, .int .u8 0, .int .u8 0, .int .u8 0, .int .u8 0, .int .u8 0, .int .u8 0, .int .u8 0, .int .u8 0, .int .u8 0, .int .u8 0, .int .u8 0, .int .u8 0, .int .u8 0, .int .u8 0, .int .u8 0, .int .u8 0, .int .u8 0, .int .u8 0, .int .u8 0, .int .u8 0] 167) (.cells #[.int .u8 0, .int .u8 0, .int .u8 0, .int .u8 0, .int .u8 0, .int .u8 0, .int .u8 0, .int .u8 0, .int .u8 0, .int .u8 0, .int .u8 0, .int .u8 0, .int .u8 0, .int .u8 0, .int .u8 0, .int .u8 0, .int .u8 0, .int .u8 0, .int .u8 0, .int .u8 0, .int .u8 0, .int .u8 0, .int .u8 0, .int .u8 0, .int .u8 0, .int .u8 0, .int .u8 0, .int .u8 0, .int .u8 0, .int .u8 0, .int .u8 0, .int .u8 0] 167))
  have HZ := Lib.hid hz
  have hcp : (Builtin.copy_ #[119, 9] 3 #[.slice (some ⟨w.heap.size + 1, 0, none⟩) 32 32, .string s]).run Try.prog (((w.alloc (.cells #[.int .i64 0, .int .i64 0, .int .i64 0, .int .i64 0] 39)).alloc (.cells #[.int .u8 0, .int .u8 0, .int .u8 0, .int .u8 0, .int .u8 0, .int .u8 0, .int .u8 0, .int .u8 0, .int .u8 0, .int .u8 0, .int .u8 0, .int .u8 0, .int .u8 0, .int .u8 0, .int .u8 0, .int .u8 0, .int .u8 0, .int .u8 0, .int .u8 0, .int .u8 0, .int .u8 0, .int .u8 0, .int .u8 0, .int .u8 0, .int .u8 0, .int .u8 0, .int .u8 0, .int .u8 0, .int .u8 0, .int .u8 0, .int .u8 0, .int .u8 0] 167)).alloc (.cells #[.int .u8 0, .int .u8 0, .int .u8 0, .int .u8 0, .int .u8 0, .int .u8 0, .int .u8 0, .int .u8 0, .int .u8 0, .int .u8 0, .int .u8 0, .int .u8 0, .int .u8 0, .int .u8 0, .int .u8 0, .int .u8 0, .int .u8 0, .int .u8 0, .int .u8 0, .int .u8 0, .int .u8 0, .int .u8 0, .int .u8 0, .int .u8 0, .int .u8 0, .int .u8 0, .int .u8 0, .int .u8 0, .int .u8 0, .int .u8 0, .int .u8 0, .int .u8 0] 167)) = .ok (goInt 32) ((((w.alloc (.cells #[.int .i64 0, .int .i64 0, .int .i64 0, .int .i64 0] 39)).alloc (.cells #[.int .u8 0, .int .u8 0, .int .u8 0, .int .u8 0, .int .u8 0, .int .u8 0, .int .u8 0, .int .u8 0, .int .u8 0, .int .u8 0, .int .u8 0, .int .u8 0, .int .u8 0, .int .u8 0, .int .u8 0, .int .u8 0, .int .u8 0, .int .u8 0, .int .u8 0, .int .u8 0, .int .u8 0, .int .u8 0, .int .u8 0, .int .u8 0, .int .u8 0, .int .u8 0, .int .u8 0, .int .u8 0, .int .u8 0, .int .u8 0, .int .u8 0, .int .u8 0] 167)).alloc (.cells #[.int .u8 0, .int .u8 0, .int .u8 0, .int .u8 0, .int .u8 0, .int .u8 0, .int .u8 0, .int .u8 0, .int .u8 0, .int .u8 0, .int .u8 0, .int .u8 0, .int .u8 0, .int .u8 0, .int .u8 0, .int .u8 0, .int .u8 0, .int .u8 0, .int .u8 0, .int .u8 0, .int .u8 0, .int .u8 0, .int .u8 0, .int .u8 0, .int .u8 0, .int .u8 0, .int .u8 0, .int .u8 0, .int .u8 0, .int .u8 0, .int .u8 0, .int .u8 0] 167)).setRow (w.heap.size + 1) (hcA (hf1 s))) := by
    have := run_copy_long (P := Try.prog) (((w.alloc (.cells #[.int .i64 0, .int .i64 0, .int .i64 0, .int .i64 0] 39)).alloc (.cells #[.int .u8 0, .int .u8 0, .int .u8 0, .int .u8 0, .int .u8 0, .int .u8 0, .int .u8 0, .int .u8 0, .int .u8 0, .int .u8 0, .int .u8 0, .int .u8 0, .int .u8 0, .int .u8 0, .int .u8 0, .int .u8 0, .int .u8 0, .int .u8 0, .int .u8 0, .int .u8 0, .int .u8 0, .int .u8 0, .int .u8 0, .int .u8 0, .int .u8 0, .int .u8 0, .int .u8 0, .int .u8 0, .int .u8 0, .int .u8 0, .int .u8 0, .int .u8 0] 167)).alloc (.cells #[.int .u8 0, .int .u8 0, .int .u8 0, .int .u8 0, .int .u8 0, .int .u8 0, .int .u8 0, .int .u8 0, .int .u8 0, .int .u8 0, .int .u8 0, .int .u8 0, .int .u8 0, .int .u8 0, .int .u8 0, .int .u8 0, .int .u8 0, .int .u8 0, .int .u8 0, .int .u8 0, .int .u8 0, .int .u8 0, .int .u8 0, .int .u8 0, .int .u8 0, .int .u8 0, .int .u8 0, .int .u8 0, .int .u8 0, .int .u8 0, .int .u8 0, .int .u8 0] 167)) 119 9 3 5 (w.heap.size + 1) 0 32 32 s #[.int .u8 0, .int .u8 0, .int .u8 0, .int .u8 0, .int .u8 0, .int .u8 0, .int .u8 0, .int .u8 0, .int .u8 0, .int .u8 0, .int .u8 0, .int .u8 0, .int .u8 0, .int .u8 0, .int .u8 0, .int .u8 0, .int .u8 0, .int .u8 0, .int .u8 0, .int .u8 0, .int .u8 0, .int .u8 0, .int .u8 0, .int .u8 0, .int .u8 0, .int .u8 0, .int .u8 0, .int .u8 0, .int .u8 0, .int .u8 0, .int .u8 0, .int .u8 0] 167 Try.underlying119 (by kernel_rfl) HW.out.2.1 (by omega) (by decide)
    rw [row_all _ rfl] at this
    exact this
  have RA : Hid (((((w.alloc (.cells #[.int .i64 0, .int .i64 0, .int .i64 0, .int .i64 0] 39)).alloc (.cells #[.int .u8 0, .int .u8 0, .int .u8 0, .int .u8 0, .int .u8 0, .int .u8 0, .int .u8 0, .int .u8 0, .int .u8 0, .int .u8 0, .int .u8 0, .int .u8 0, .int .u8 0, .int .u8 0, .int .u8 0, .int .u8 0, .int .u8 0, .int .u8 0, .int .u8 0, .int .u8 0, .int .u8 0, .int .u8 0, .int .u8 0, .int .u8 0, .int .u8 0, .int .u8 0, .int .u8 0, .int .u8 0, .int .u8 0, .int .u8 0, .int .u8 0, .int .u8 0] 167)).alloc (.cells #[.int .u8 0, .int .u8 0, .int .u8 0, .int .u8 0, .int .u8 0, .int .u8 0, .int .u8 0, .int .u8 0, .int .u8 0, .int .u8 0, .int .u8 0, .int .u8 0, .int .u8 0, .int .u8 0, .int .u8 0, .int .u8 0, .int .u8 0, .int .u8 0, .int .u8 0, .int .u8 0, .int .u8 0, .int .u8 0, .int .u8 0, .int .u8 0, .int .u8 0, .int .u8 0, .int .u8 0, .int .u8 0, .int .u8 0, .int .u8 0, .int .u8 0, .int .u8 0] 167)).setRow (w.heap.size + 1) (hcA (hf1 s))).heap[w.heap.size + 1]? = some (.cells (hcA (hf1 s)) 167 (0, 0))) := Lib.hid (setRow_heap _ _ _ _ _ _ HW.out.2.1)
  have RB : Hid (((((w.alloc (.cells #[.int .i64 0, .int .i64 0, .int .i64 0, .int .i64 0] 39)).alloc (.cells #[.int .u8 0, .int .u8 0, .int .u8 0, .int .u8 0, .int .u8 0, .int .u8 0, .int .u8 0, .int .u8 0, .int .u8 0, .int .u8 0, .int .u8 0, .int .u8 0, .int .u8 0, .int .u8 0, .int .u8 0, .int .u8 0, .int .u8 0, .int .u8 0, .int .u8 0, .int .u8 0, .int .u8 0, .int .u8 0, .int .u8 0, .int .u8 0, .int .u8 0, .int .u8 0, .int .u8 0, .int .u8 0, .int .u8 0, .int .u8 0, .int .u8 0, .int .u8 0] 167)).alloc (.cells #[.int .u8 0, .int .u8 0, .int .u8 0, .int .u8 0, .int .u8 0, .int .u8 0, .int .u8 0, .int .u8 0, .int .u8 0, .int .u8 0, .int .u8 0, .int .u8 0, .int .u8 0, .int .u8 0, .int .u8 0, .int .u8 0, .int .u8 0, .int .u8 0, .int .u8 0, .int .u8 0, .int .u8 0, .int .u8 0, .int .u8 0, .int .u8 0, .int .u8 0, .int .u8 0, .int .u8 0, .int .u8 0, .int .u8 0, .int .u8 0, .int .u8 0, .int .u8 0] 167)).setRow (w.heap.size + 1) (hcA (hf1 s))).heap[w.heap.size + 1 + 1]? = some (.cells #[.int .u8 0, .int .u8 0, .int .u8 0, .int .u8 0, .int .u8 0, .int .u8 0, .int .u8 0, .int .u8 0, .int .u8 0, .int .u8 0, .int .u8 0, .int .u8 0, .int .u8 0, .int .u8 0, .int .u8 0, .int .u8 0, .int .u8 0, .int .u8 0, .int .u8 0, .int .u8 0, .int .u8 0, .int .u8 0, .int .u8 0, .int .u8 0, .int .u8 0, .int .u8 0, .int .u8 0, .int .u8 0, .int .u8 0, .int .u8 0, .int .u8 0, .int .u8 0] 167 (0, 0))) := Lib.hid ((setRow_other _ _ _ _ (by omega)).trans HW.out.2.2.1)
  have RS : Hid (((((w.alloc (.cells #[.int .i64 0, .int .i64 0, .int .i64 0, .int .i64 0] 39)).alloc (.cells #[.int .u8 0, .int .u8 0, .int .u8 0, .int .u8 0, .int .u8 0, .int .u8 0, .int .u8 0, .int .u8 0, .int .u8 0, .int .u8 0, .int .u8 0, .int .u8 0, .int .u8 0, .int .u8 0, .int .u8 0, .int .u8 0, .int .u8 0, .int .u8 0, .int .u8 0, .int .u8 0, .int .u8 0, .int .u8 0, .int .u8 0, .int .u8 0, .int .u8 0, .int .u8 0, .int .u8 0, .int .u8 0, .int .u8 0, .int .u8 0, .int .u8 0, .int .u8 0] 167)).alloc (.cells #[.int .u8 0, .int .u8 0, .int .u8 0, .int .u8 0, .int .u8 0, .int .u8 0, .int .u8 0, .int .u8 0, .int .u8 0, .int .u8 0, .int .u8 0, .int .u8 0, .int .u8 0, .int .u8 0, .int .u8 0, .int .u8 0, .int .u8 0, .int .u8 0, .int .u8 0, .int .u8 0, .int .u8 0, .int .u8 0, .int .u8 0, .int .u8 0, .int .u8 0, .int .u8 0, .int .u8 0, .int .u8 0, .int .u8 0, .int .u8 0, .int .u8 0, .int .u8 0] 167)).setRow (w.heap.size + 1) (hcA (hf1 s))).heap[w.heap.size]? = some (.cells #[.int .i64 0, .int .i64 0, .int .i64 0, .int .i64 0] 39 (0, 0))) := Lib.hid ((setRow_other _ _ _ _ (by omega)).trans HW.out.1)
  have BW : Hid (Below w.heap.size w ((((w.alloc (.cells #[.int .i64 0, .int .i64 0, .int .i64 0, .int .i64 0] 39)).alloc (.cells #[.int .u8 0, .int .u8 0, .int .u8 0, .int .u8 0, .int .u8 0, .int .u8 0, .int .u8 0, .int .u8 0, .int .u8 0, .int .u8 0, .int .u8 0, .int .u8 0, .int .u8 0, .int .u8 0, .int .u8 0, .int .u8 0, .int .u8 0, .int .u8 0, .int .u8 0, .int .u8 0, .int .u8 0, .int .u8 0, .int .u8 0, .int .u8 0, .int .u8 0, .int .u8 0, .int .u8 0, .int .u8 0, .int .u8 0, .int .u8 0, .int .u8 0, .int .u8 0] 167)).alloc (.cells #[.int .u8 0, .int .u8 0, .int .u8 0, .int .u8 0, .int .u8 0, .int .u8 0, .int .u8 0, .int .u8 0, .int .u8 0, .int .u8 0, .int .u8 0, .int .u8 0, .int .u8 0, .int .u8 0, .int .u8 0, .int .u8 0, .int .u8 0, .int .u8 0, .int .u8 0, .int .u8 0, .int .u8 0, .int .u8 0, .int .u8 0, .int .u8 0, .int .u8 0, .int .u8 0, .int .u8 0, .int .u8 0, .int .u8 0, .int .u8 0, .int .u8 0, .int .u8 0] 167)).setRow (w.heap.size + 1) (hcA (hf1 s)))) := Lib.hid (below_setRow HW.out.2.2.2.2 (by omega) _)
  have ZW : Hid (w.heap.size + 3 ≤ ((((w.alloc (.cells #[.int .i64 0, .int .i64 0, .int .i64 0, .int .i64 0] 39)).alloc (.cells #[.int .u8 0, .int .u8 0, .int .u8 0, .int .u8 0, .int .u8 0, .int .u8 0, .int .u8 0, .int .u8 0, .int .u8 0, .int .u8 0, .int .u8 0, .int .u8 0, .int .u8 0, .int .u8 0, .int .u8 0, .int .u8 0, .int .u8 0, .int .u8 0, .int .u8 0, .int .u8 0, .int .u8 0, .int .u8 0, .int .u8 0, .int .u8 0, .int .u8 0, .int .u8 0, .int .u8 0, .int .u8 0, .int .u8 0, .int .u8 0, .int .u8 0, .int .u8 0] 167)).alloc (.cells #[.int .u8 0, .int .u8 0, .int .u8 0, .int .u8 0, .int .u8 0, .int .u8 0, .int .u8 0, .int .u8 0, .int .u8 0, .int .u8 0, .int .u8 0, .int .u8 0, .int .u8 0, .int .u8 0, .int .u8 0, .int .u8 0, .int .u8 0, .int .u8 0, .int .u8 0, .int .u8 0, .int .u8 0, .int .u8 0, .int .u8 0, .int .u8 0, .int .u8 0, .int .u8 0, .int .u8 0, .int .u8 0, .int .u8 0, .int .u8 0, .int .u8 0, .int .u8 0] 167)).setRow (w.heap.size + 1) (hcA (hf1 s))).heap.size) := Lib.hid (by
    have h := (below_setRow (Below.refl (w.heap.size + 1) (((w.alloc (.cells #[.int .i64 0, .int .i64 0, .int .i64 0, .int .i64 0] 39)).alloc (.cells #[.int .u8 0, .int .u8 0, .int .u8 0, .int .u8 0, .int .u8 0, .int .u8 0, .int .u8 0, .int .u8 0, .int .u8 0, .int .u8 0, .int .u8 0, .int .u8 0, .int .u8 0, .int .u8 0, .int .u8 0, .int .u8 0, .int .u8 0, .int .u8 0, .int .u8 0, .int .u8 0, .int .u8 0, .int .u8 0, .int .u8 0, .int .u8 0, .int .u8 0, .int .u8 0, .int .u8 0, .int .u8 0, .int .u8 0, .int .u8 0, .int .u8 0, .int .u8 0] 167)).alloc (.cells #[.int .u8 0, .int .u8 0, .int .u8 0, .int .u8 0, .int .u8 0, .int .u8 0, .int .u8 0, .int .u8 0, .int .u8 0, .int .u8 0, .int .u8 0, .int .u8 0, .int .u8 0, .int .u8 0, .int .u8 0, .int .u8 0, .int .u8 0, .int .u8 0, .int .u8 0, .int .u8 0, .int .u8 0, .int .u8 0, .int .u8 0, .int .u8 0, .int .u8 0, .int .u8 0, .int .u8 0, .int .u8 0, .int .u8 0, .int .u8 0, .int .u8 0, .int .u8 0] 167))) (Nat.le_refl _) (hcA (hf1 s))).size
    have h2 := HW.out.2.2.2.1
    omega)
  go_enter Try.func53, Try.ntmps53
  go_wp2_with fail
  clear hcp
  generalize ((((w.alloc (.cells #[.int .i64 0, .int .i64 0, .int .i64 0, .int .i64 0] 39)).alloc (.cells #[.int .u8 0, .int .u8 0, .int .u8 0, .int .u8 0, .int .u8 0, .int .u8 0, .int .u8 0, .int .u8 0, .int .u8 0, .int .u8 0, .int .u8 0, .int .u8 0, .int .u8 0, .int .u8 0, .int .u8 0, .int .u8 0, .int .u8 0, .int .u8 0, .int .u8 0, .int .u8 0, .int .u8 0, .int .u8 0, .int .u8 0, .int .u8 0, .int .u8 0, .int .u8 0, .int .u8 0, .int .u8 0, .int .u8 0, .int .u8 0, .int .u8 0, .int .u8 0] 167)).alloc (.cells #[.int .u8 0, .int .u8 0, .int .u8 0, .int .u8 0, .int .u8 0, .int .u8 0, .int .u8 0, .int .u8 0, .int .u8 0, .int .u8 0, .int .u8 0, .int .u8 0, .int .u8 0, .int .u8 0, .int .u8 0, .int .u8 0, .int .u8 0, .int .u8 0, .int .u8 0, .int .u8 0, .int .u8 0, .int .u8 0, .int .u8 0, .int .u8 0, .int .u8 0, .int .u8 0, .int .u8 0, .int .u8 0, .int .u8 0, .int .u8 0, .int .u8 0, .int .u8 0] 167)).setRow (w.heap.size + 1) (hcA (hf1 s))) = w4 at *
  have hx := ext_hf2 hz
  have hcp : (Builtin.copy_ #[119, 9] 3 #[.slice (some ⟨w.heap.size + 1 + 1, 0, none⟩) 32 32, .string (hf2 s)]).run Try.prog w4.drew = .ok (goInt 32) (w4.drew.setRow (w.heap.size + 1 + 1) (hcA (hf2 s))) := by
    have := Lib.run_copy_row_string (P := Try.prog) w4.drew 119 9 3 5 (w.heap.size + 1 + 1) 0 32 32 (hf2 s) #[.int .u8 0, .int .u8 0, .int .u8 0, .int .u8 0, .int .u8 0, .int .u8 0, .int .u8 0, .int .u8 0, .int .u8 0, .int .u8 0, .int .u8 0, .int .u8 0, .int .u8 0, .int .u8 0, .int .u8 0, .int .u8 0, .int .u8 0, .int .u8 0, .int .u8 0, .int .u8 0, .int .u8 0, .int .u8 0, .int .u8 0, .int .u8 0, .int .u8 0, .int .u8 0, .int .u8 0, .int .u8 0, .int .u8 0, .int .u8 0, .int .u8 0, .int .u8 0] 167 Try.underlying119 (by kernel_rfl) RB.out (by rw [hf2_size hz]; decide) (by rw [hf2_size hz]; decide)
    rw [hf2_size hz, row_all _ rfl] at this
    exact this
  go_region_held3 (fun _ => True) (trivial)
    (fail)
  simp only [Exit.then]
  have RA5 : Hid ((w4.drew.setRow (w.heap.size + 1 + 1) (hcA (hf2 s))).heap[w.heap.size + 1]? = some (.cells (hcA (hf1 s)) 167 (0, 0))) := Lib.hid ((setRow_other _ _ _ _ (by omega)).trans RA.out)
  have RB5 : Hid ((w4.drew.setRow (w.heap.size + 1 + 1) (hcA (hf2 s))).heap[w.heap.size + 1 + 1]? = some (.cells (hcA (hf2 s)) 167 (0, 0))) := Lib.hid (setRow_heap w4.drew _ _ _ _ _ RB.out)
  have RS5 : Hid ((w4.drew.setRow (w.heap.size + 1 + 1) (hcA (hf2 s))).heap[w.heap.size]? = some (.cells #[.int .i64 0, .int .i64 0, .int .i64 0, .int .i64 0] 39 (0, 0))) := Lib.hid ((setRow_other _ _ _ _ (by omega)).trans RS.out)
  have BW5 : Hid (Below w.heap.size w (w4.drew.setRow (w.heap.size + 1 + 1) (hcA (hf2 s)))) := Lib.hid (below_setRow BW.out.drew (by omega) _)
  have ZW5 : Hid (w.heap.size + 3 ≤ (w4.drew.setRow (w.heap.size + 1 + 1) (hcA (hf2 s))).heap.size) := Lib.hid (by
    have h := (below_setRow (Below.refl (w.heap.size + 1 + 1) w4.drew) (Nat.le_refl _) (hcA (hf2 s))).size
    have h2 := ZW.out
    have h3 : w4.drew.heap.size = w4.heap.size := rfl
    omega)
  have HSup := Lib.hid (fun W => by
    have h := super_any (hf1_size hz) W
    rw [gV_hf1 s 5 2 (by omega), gV_hf1 s 7 2 (by omega), gV_hf1 s 9 8 (by omega), gV_hf1 s 17 8 (by omega)] at h
    exact h)
  have Hi1 := Lib.hid (hcA_info (hf1_size hz))
  have Hi2 := Lib.hid (hcA_info (hf2_size hz))
  have heq := fun W => halves_eq W (hf1_size hz) (hf2_size hz)
  have HE3 := Lib.hid (fun W => halves_eq W (hf1_size hz) (supP_size (gV s 5 2) (gV s 7 2) (gV s 9 8) (gV s 17 8)))
  have EY := Lib.hid (dcY_half hz)
  have EA : Hid (dcA s = if dcY s then #[.int .i64 (gV s 5 2), .int .i64 (gV s 7 2), .int .i64 (gV s 9 8), .int .i64 (gV s 17 8)] else #[.int .i64 0, .int .i64 0, .int .i64 0, .int .i64 0]) := Lib.hid rfl
  have I0 := Lib.hid (gV_in s 5 2); have I1 := Lib.hid (gV_in s 7 2)
  have HL1 : Hid ((Lib.byteCells (hf1 s).data.toList).length = 32) := Lib.hid (by have := hcA_size (hf1_size hz); simpa [hcA] using this)
  have HL2 : Hid ((Lib.byteCells (hf2 s).data.toList).length = 32) := Lib.hid (by have := hcA_size (hf2_size hz); simpa [hcA] using this)
  have HHo := Lib.hid (fun W (h : supOk (gV s 5 2) (gV s 7 2) (gV s 9 8) (gV s 17 8) = true) => halfOf_any (gV s 5 2) (gV s 7 2) (gV s 9 8) (gV s 17 8) W h)
  simp only [halfC_hcA] at HHo
  generalize supP (gV s 5 2) (gV s 7 2) (gV s 9 8) (gV s 17 8) = h3 at *
  have HEQ := Lib.hid heq; clear heq
  clear hcp hx h1 hle RA RB RS BW ZW HW R0 Hb0
  generalize (w4.drew.setRow (w.heap.size + 1 + 1) (hcA (hf2 s))) = w5 at *
  generalize dcA s = A at *
  generalize dcY s = Y at *
  generalize gV s 5 2 = x0 at *
  generalize gV s 7 2 = x1 at *
  generalize gV s 9 8 = x2 at *
  generalize gV s 17 8 = x3 at *
  generalize hf1 s = h1 at *
  generalize hf2 s = h2 at *
  go_wp2_with (refine wpList_load_row rfl 167 (.tmp 4) rfl _ rfl 167 _ (0, 0) _ RA5.out Try.underlying167 rfl Hi1.out ?_)
  refine (HSup.out w5).mono ?_
  rintro e w6 ⟨rfl, g⟩
  have hz5 := ZW5.out
  have hgs := g.size
  have GA : Below w5.heap.size w5 (w6.alloc (.cells #[.int .i64 x0, .int .i64 x1, .int .i64 x2, .int .i64 x3] 39)) := g.alloc g.size _
  have RA7 : Hid ((w6.alloc (.cells #[.int .i64 x0, .int .i64 x1, .int .i64 x2, .int .i64 x3] 39)).heap[w.heap.size + 1]? = some (.cells (hcA h1) 167 (0, 0))) := Lib.hid ((GA.block _ (by omega)).trans RA5.out)
  have RB7 : Hid ((w6.alloc (.cells #[.int .i64 x0, .int .i64 x1, .int .i64 x2, .int .i64 x3] 39)).heap[w.heap.size + 1 + 1]? = some (.cells (hcA h2) 167 (0, 0))) := Lib.hid ((GA.block _ (by omega)).trans RB5.out)
  have RS7 : Hid ((w6.alloc (.cells #[.int .i64 x0, .int .i64 x1, .int .i64 x2, .int .i64 x3] 39)).heap[w.heap.size]? = some (.cells #[.int .i64 0, .int .i64 0, .int .i64 0, .int .i64 0] 39 (0, 0))) := Lib.hid ((GA.block _ (by omega)).trans RS5.out)
  have RC7 : Hid ((w6.alloc (.cells #[.int .i64 x0, .int .i64 x1, .int .i64 x2, .int .i64 x3] 39)).heap[w6.heap.size]? = some (.cells #[.int .i64 x0, .int .i64 x1, .int .i64 x2, .int .i64 x3] 39 (0, 0))) := Lib.hid (heap_alloc_new w6 _)
  have BW7 : Hid (Below w.heap.size w (w6.alloc (.cells #[.int .i64 x0, .int .i64 x1, .int .i64 x2, .int .i64 x3] 39))) := Lib.hid (BW5.out.trans (GA.mono (by omega)))
  have ZW7 : Hid (w.heap.size + 3 ≤ w6.heap.size ∧ w6.heap.size < (w6.alloc (.cells #[.int .i64 x0, .int .i64 x1, .int .i64 x2, .int .i64 x3] 39)).heap.size) := Lib.hid ⟨by omega, by simp⟩
  clear GA hz5 hgs g
  go_wp2
  generalize (w6.alloc (.cells #[.int .i64 x0, .int .i64 x1, .int .i64 x2, .int .i64 x3] 39)) = w7 at *
  generalize w6.heap.size = b at *
  have U32 := Try.underlying167
  have i1 : (Try.prog.info? 167).map (·.size) = some (Lib.byteCells h1.data.toList).length := by rw [HL1.out]; kernel_rfl
  have i2 : (Try.prog.info? 167).map (·.size) = some (Lib.byteCells h2.data.toList).length := by rw [HL2.out]; kernel_rfl
  have HS7 : Hid (∀ W, Below w7.heap.size w7 W → (fun W => W.rangeAt (w.heap.size + 1) 0 (Lib.byteCells h1.data.toList) ∧ W.rangeAt (w.heap.size + 1 + 1) 0 (Lib.byteCells h2.data.toList) ∧ W.cell? ⟨b, 0, none⟩ = some (.int .i64 x0) ∧ W.cell? ⟨b, 1, none⟩ = some (.int .i64 x1) ∧ W.cell? ⟨b, 2, none⟩ = some (.int .i64 x2) ∧ W.cell? ⟨b, 3, none⟩ = some (.int .i64 x3)) W) := Lib.hid (fun W hW => by
    have hz7 := ZW7.out
    have hr := (hW.block b hz7.2).trans RC7.out
    exact ⟨range_row ((hW.block _ (by omega)).trans RA7.out), range_row ((hW.block _ (by omega)).trans RB7.out), by rw [cell_of_row _ _ _ _ _ _ hr]; rfl, by rw [cell_of_row _ _ _ _ _ _ hr]; rfl, by rw [cell_of_row _ _ _ _ _ _ hr]; rfl, by rw [cell_of_row _ _ _ _ _ _ hr]; rfl⟩)
  have HDr : Hid (Below w7.heap.size w7 w7.drew) := Lib.hid (Below.refl _ _).drew
  by_cases he : h1 = h2
  rotate_left
  · have heq : ∀ W, (Op.equalIn 10000 167 (.agg (Lib.byteCells h1.data.toList).toArray) (.agg (Lib.byteCells h2.data.toList).toArray)).run Try.prog W = .ok false W := fun W => by have h := HEQ.out W; rw [decide_eq_false he] at h; exact h
    have E : Hid (A = #[.int .i64 0, .int .i64 0, .int .i64 0, .int .i64 0] ∧ Y = false) := Lib.hid (by have h := EY.out; simp [he] at h; exact ⟨by rw [EA.out, h]; rfl, h⟩)
    clear he
    refine wp_region_held_drew (S := (fun W => W.rangeAt (w.heap.size + 1) 0 (Lib.byteCells h1.data.toList) ∧ W.rangeAt (w.heap.size + 1 + 1) 0 (Lib.byteCells h2.data.toList) ∧ W.cell? ⟨b, 0, none⟩ = some (.int .i64 x0) ∧ W.cell? ⟨b, 1, none⟩ = some (.int .i64 x1) ∧ W.cell? ⟨b, 2, none⟩ = some (.int .i64 x2) ∧ W.cell? ⟨b, 3, none⟩ = some (.int .i64 x3))) (by kernel_rfl) (HS7.out _ HDr.out) (fun hHeld => ?_)
    refine held_mid 0 (some 20) (v := .agg (Lib.byteCells h1.data.toList).toArray) rfl rfl (by kernel_rfl) (by kernel_rfl) (by kernel_rfl) (fun _ _ _ h => h) (yieldsIf_load_mid (by rfl) _ _ rfl _ _ rfl (Lib.byteCells h1.data.toList) _ (fun w hS => hS.1) U32 rfl i1) hHeld ?_
    try simp only [Act.put, List.setIfInBounds_toArray, List.set_cons_zero, List.set_cons_succ]
    refine held_mid 1 (some 21) (v := .agg (Lib.byteCells h2.data.toList).toArray) rfl rfl (by kernel_rfl) (by kernel_rfl) (by kernel_rfl) (fun _ _ _ h => h) (yieldsIf_load_mid (by rfl) _ _ rfl _ _ rfl (Lib.byteCells h2.data.toList) _ (fun w hS => hS.2.1) U32 rfl i2) hHeld ?_
    try simp only [Act.put, List.setIfInBounds_toArray, List.set_cons_zero, List.set_cons_succ]
    refine held_yes 2 (some 22) rfl rfl (by kernel_rfl) (by kernel_rfl) (by kernel_rfl) (fun _ _ _ h => h) (by kernel_rfl) hHeld (v := ?_) (fun wz hSw => ?_) ?_
    rotate_left 1
    · (try dsimp only at hSw); go_simp; (try with_reducible rfl)
    try simp only [Act.put, List.setIfInBounds_toArray, List.set_cons_zero, List.set_cons_succ]
    refine held_yes 3 (some 23) rfl rfl (by kernel_rfl) (by kernel_rfl) (by kernel_rfl) (fun _ _ _ h => h) (by kernel_rfl) hHeld (v := ?_) (fun wz hSw => ?_) ?_
    rotate_left 1
    · (try dsimp only at hSw); go_simp; (try with_reducible rfl)
    try simp only [Act.put, List.setIfInBounds_toArray, List.set_cons_zero, List.set_cons_succ]
    refine held_no 4 (some 24) rfl rfl (by kernel_rfl) (by kernel_rfl) (by kernel_rfl) (fun _ _ _ h => h) (by kernel_rfl) hHeld ?_
    try simp only [Act.put, List.setIfInBounds_toArray, List.set_cons_zero, List.set_cons_succ]
    refine held_no 5 (some 25) rfl rfl (by kernel_rfl) (by kernel_rfl) (by kernel_rfl) (fun _ _ _ h => h) (by kernel_rfl) hHeld ?_
    try simp only [Act.put, List.setIfInBounds_toArray, List.set_cons_zero, List.set_cons_succ]
    refine held_no 6 (some 26) rfl rfl (by kernel_rfl) (by kernel_rfl) (by kernel_rfl) (fun _ _ _ h => h) (by kernel_rfl) hHeld ?_
    try simp only [Act.put, List.setIfInBounds_toArray, List.set_cons_zero, List.set_cons_succ]
    refine held_yes 7 (some 27) rfl rfl (by kernel_rfl) (by kernel_rfl) (by kernel_rfl) (fun _ _ _ h => h) (by kernel_rfl) hHeld (v := ?_) (fun wz hSw => ?_) ?_
    rotate_left 1
    · (try dsimp only at hSw); go_simp; (try with_reducible rfl)
    try simp only [Act.put, List.setIfInBounds_toArray, List.set_cons_zero, List.set_cons_succ]
    refine held_yes 8 (some 28) rfl rfl (by kernel_rfl) (by kernel_rfl) (by kernel_rfl) (fun _ _ _ h => h) (by kernel_rfl) hHeld (v := ?_) (fun wz hSw => ?_) ?_
    rotate_left 1
    · (try dsimp only at hSw); go_simp; (try with_reducible rfl)
    try simp only [Act.put, List.setIfInBounds_toArray, List.set_cons_zero, List.set_cons_succ]
    refine held_no 9 (some 29) rfl rfl (by kernel_rfl) (by kernel_rfl) (by kernel_rfl) (fun _ _ _ h => h) (by kernel_rfl) hHeld ?_
    try simp only [Act.put, List.setIfInBounds_toArray, List.set_cons_zero, List.set_cons_succ]
    refine held_no 10 (some 30) rfl rfl (by kernel_rfl) (by kernel_rfl) (by kernel_rfl) (fun _ _ _ h => h) (by kernel_rfl) hHeld ?_
    try simp only [Act.put, List.setIfInBounds_toArray, List.set_cons_zero, List.set_cons_succ]
    refine held_no 11 (some 31) rfl rfl (by kernel_rfl) (by kernel_rfl) (by kernel_rfl) (fun _ _ _ h => h) (by kernel_rfl) hHeld ?_
    try simp only [Act.put, List.setIfInBounds_toArray, List.set_cons_zero, List.set_cons_succ]
    refine held_no 12 (some 32) rfl rfl (by kernel_rfl) (by kernel_rfl) (by kernel_rfl) (fun _ _ _ h => h) (by kernel_rfl) hHeld ?_
    try simp only [Act.put, List.setIfInBounds_toArray, List.set_cons_zero, List.set_cons_succ]
    refine held_yes 13 (some 33) rfl rfl (by kernel_rfl) (by kernel_rfl) (by kernel_rfl) (fun _ _ _ h => h) (by kernel_rfl) hHeld (v := ?_) (fun wz hSw => ?_) ?_
    rotate_left 1
    · (try dsimp only at hSw); go_simp; (try with_reducible rfl)
    try simp only [Act.put, List.setIfInBounds_toArray, List.set_cons_zero, List.set_cons_succ]
    refine wpAnyH_done (by kernel_rfl) ?_ _
    try generalize (Value.agg (Lib.byteCells h1.data.toList).toArray) = z1
    try generalize (Value.agg (Lib.byteCells h2.data.toList).toArray) = z2
    try generalize (Value.agg (Lib.byteCells h3.data.toList).toArray) = z3
    have RS8 : Hid (w7.drew.heap[w.heap.size]? = some (.cells #[.int .i64 0, .int .i64 0, .int .i64 0, .int .i64 0] 39 (0, 0))) := Lib.hid ((HDr.out.block _ (by have := ZW7.out; omega)).trans RS7.out)
    have BW8 : Hid (Below w.heap.size w w7.drew) := Lib.hid (BW7.out.trans (HDr.out.mono BW7.out.size))
    clear heq i1 i2 U32 hHeld
    try simp only [Exit.then]
    go_wp2_with (refine wpList_store_row rfl 39 (.tmp 2) (.tmp 34) rfl w.heap.size #[.int .i64 0, .int .i64 0, .int .i64 0, .int .i64 0] rfl rfl 39 _ RS8.out (infoS4 _ _ _ _) rfl oneS4 ?_)
    refine bodyPost_ret (v := .tuple #[.agg #[.int .i64 0, .int .i64 0, .int .i64 0, .int .i64 0], .bool false]) ?_ rfl ?_
    · exact results_cell_row2 rfl _ _ w.heap.size 39 _ (0, 0) _ _ rfl rfl (setRow_heap _ _ _ _ _ _ RS8.out) Try.underlying39 rfl (by kernel_rfl)
    · exact ⟨by rw [E.out.1, E.out.2], below_setRow BW8.out (Nat.le_refl _) _⟩
  have heq : ∀ W, (Op.equalIn 10000 167 (.agg (Lib.byteCells h1.data.toList).toArray) (.agg (Lib.byteCells h2.data.toList).toArray)).run Try.prog W = .ok true W := fun W => by have h := HEQ.out W; rw [decide_eq_true he] at h; exact h
  have HE := Lib.hid he
  clear he
  cases hv : supOk x0 x1 x2 x3
  · have HV := Lib.hid (fun W => by have h := implValidSuper_any x0 x1 x2 x3 W (by have := I0.out; unfold InI; omega) (by have := I1.out; unfold InI; omega); rw [hv] at h; exact h)
    have E : Hid (A = #[.int .i64 0, .int .i64 0, .int .i64 0, .int .i64 0] ∧ Y = false) := Lib.hid (by have h := EY.out; simp [hv] at h; exact ⟨by rw [EA.out, h]; rfl, h⟩)
    clear hv
    refine wp_region_held_drew (S := (fun W => W.rangeAt (w.heap.size + 1) 0 (Lib.byteCells h1.data.toList) ∧ W.rangeAt (w.heap.size + 1 + 1) 0 (Lib.byteCells h2.data.toList) ∧ W.cell? ⟨b, 0, none⟩ = some (.int .i64 x0) ∧ W.cell? ⟨b, 1, none⟩ = some (.int .i64 x1) ∧ W.cell? ⟨b, 2, none⟩ = some (.int .i64 x2) ∧ W.cell? ⟨b, 3, none⟩ = some (.int .i64 x3))) (by kernel_rfl) (HS7.out _ HDr.out) (fun hHeld => ?_)
    refine held_mid 0 (some 20) (v := .agg (Lib.byteCells h1.data.toList).toArray) rfl rfl (by kernel_rfl) (by kernel_rfl) (by kernel_rfl) (fun _ _ _ h => h) (yieldsIf_load_mid (by rfl) _ _ rfl _ _ rfl (Lib.byteCells h1.data.toList) _ (fun w hS => hS.1) U32 rfl i1) hHeld ?_
    try simp only [Act.put, List.setIfInBounds_toArray, List.set_cons_zero, List.set_cons_succ]
    refine held_mid 1 (some 21) (v := .agg (Lib.byteCells h2.data.toList).toArray) rfl rfl (by kernel_rfl) (by kernel_rfl) (by kernel_rfl) (fun _ _ _ h => h) (yieldsIf_load_mid (by rfl) _ _ rfl _ _ rfl (Lib.byteCells h2.data.toList) _ (fun w hS => hS.2.1) U32 rfl i2) hHeld ?_
    try simp only [Act.put, List.setIfInBounds_toArray, List.set_cons_zero, List.set_cons_succ]
    refine held_yes 2 (some 22) rfl rfl (by kernel_rfl) (by kernel_rfl) (by kernel_rfl) (fun _ _ _ h => h) (by kernel_rfl) hHeld (v := ?_) (fun wz hSw => ?_) ?_
    rotate_left 1
    · (try dsimp only at hSw); go_simp; (try with_reducible rfl)
    try simp only [Act.put, List.setIfInBounds_toArray, List.set_cons_zero, List.set_cons_succ]
    refine held_yes 3 (some 23) rfl rfl (by kernel_rfl) (by kernel_rfl) (by kernel_rfl) (fun _ _ _ h => h) (by kernel_rfl) hHeld (v := ?_) (fun wz hSw => ?_) ?_
    rotate_left 1
    · (try dsimp only at hSw); go_simp; (try with_reducible rfl)
    try simp only [Act.put, List.setIfInBounds_toArray, List.set_cons_zero, List.set_cons_succ]
    refine held_yes 4 (some 24) rfl rfl (by kernel_rfl) (by kernel_rfl) (by kernel_rfl) (fun _ _ _ h => h) (by kernel_rfl) hHeld (v := ?_) (fun wz hSw => ?_) ?_
    rotate_left 1
    · (try dsimp only at hSw); go_simp; (try with_reducible rfl)
    try simp only [Act.put, List.setIfInBounds_toArray, List.set_cons_zero, List.set_cons_succ]
    refine wpAnyH_ready (rs := [5]) (by kernel_rfl) (by simp) ?_
    refine AllReadyH.cons rfl (fun K hK => ?_) AllReadyH.nil
    go_simp
    go_at_call 125
    go_fit (HV.out _)
    rintro e u1 ⟨rfl, ga⟩
    have kb1 : Below w7.heap.size w7 u1 := HDr.out.trans (ga.mono HDr.out.size)
    refine hK.out _ _ (HS7.out _ kb1) (fun hHeld => ?_)
    clear hK K
    try simp only [Act.put, List.setIfInBounds_toArray, List.set_cons_zero, List.set_cons_succ]
    refine held_yes 6 (some 26) rfl rfl (by kernel_rfl) (by kernel_rfl) (by kernel_rfl) (fun _ _ _ h => h) (by kernel_rfl) hHeld (v := ?_) (fun wz hSw => ?_) ?_
    rotate_left 1
    · (try dsimp only at hSw); go_simp; (try with_reducible rfl)
    try simp only [Act.put, List.setIfInBounds_toArray, List.set_cons_zero, List.set_cons_succ]
    refine held_yes 7 (some 27) rfl rfl (by kernel_rfl) (by kernel_rfl) (by kernel_rfl) (fun _ _ _ h => h) (by kernel_rfl) hHeld (v := ?_) (fun wz hSw => ?_) ?_
    rotate_left 1
    · (try dsimp only at hSw); go_simp; (try with_reducible rfl)
    try simp only [Act.put, List.setIfInBounds_toArray, List.set_cons_zero, List.set_cons_succ]
    refine held_yes 8 (some 28) rfl rfl (by kernel_rfl) (by kernel_rfl) (by kernel_rfl) (fun _ _ _ h => h) (by kernel_rfl) hHeld (v := ?_) (fun wz hSw => ?_) ?_
    rotate_left 1
    · (try dsimp only at hSw); go_simp; (try with_reducible rfl)
    try simp only [Act.put, List.setIfInBounds_toArray, List.set_cons_zero, List.set_cons_succ]
    refine held_no 9 (some 29) rfl rfl (by kernel_rfl) (by kernel_rfl) (by kernel_rfl) (fun _ _ _ h => h) (by kernel_rfl) hHeld ?_
    try simp only [Act.put, List.setIfInBounds_toArray, List.set_cons_zero, List.set_cons_succ]
    refine held_no 10 (some 30) rfl rfl (by kernel_rfl) (by kernel_rfl) (by kernel_rfl) (fun _ _ _ h => h) (by kernel_rfl) hHeld ?_
    try simp only [Act.put, List.setIfInBounds_toArray, List.set_cons_zero, List.set_cons_succ]
    refine held_no 11 (some 31) rfl rfl (by kernel_rfl) (by kernel_rfl) (by kernel_rfl) (fun _ _ _ h => h) (by kernel_rfl) hHeld ?_
    try simp only [Act.put, List.setIfInBounds_toArray, List.set_cons_zero, List.set_cons_succ]
    refine held_no 12 (some 32) rfl rfl (by kernel_rfl) (by kernel_rfl) (by kernel_rfl) (fun _ _ _ h => h) (by kernel_rfl) hHeld ?_
    try simp only [Act.put, List.setIfInBounds_toArray, List.set_cons_zero, List.set_cons_succ]
    refine held_yes 13 (some 33) rfl rfl (by kernel_rfl) (by kernel_rfl) (by kernel_rfl) (fun _ _ _ h => h) (by kernel_rfl) hHeld (v := ?_) (fun wz hSw => ?_) ?_
    rotate_left 1
    · (try dsimp only at hSw); go_simp; (try with_reducible rfl)
    try simp only [Act.put, List.setIfInBounds_toArray, List.set_cons_zero, List.set_cons_succ]
    refine wpAnyH_done (by kernel_rfl) ?_ _
    try generalize (Value.agg (Lib.byteCells h1.data.toList).toArray) = z1
    try generalize (Value.agg (Lib.byteCells h2.data.toList).toArray) = z2
    try generalize (Value.agg (Lib.byteCells h3.data.toList).toArray) = z3
    have RS8 : Hid (u1.heap[w.heap.size]? = some (.cells #[.int .i64 0, .int .i64 0, .int .i64 0, .int .i64 0] 39 (0, 0))) := Lib.hid ((kb1.block _ (by have := ZW7.out; omega)).trans RS7.out)
    have BW8 : Hid (Below w.heap.size w u1) := Lib.hid (BW7.out.trans (kb1.mono BW7.out.size))
    clear heq i1 i2 U32 hHeld
    try simp only [Exit.then]
    go_wp2_with (refine wpList_store_row rfl 39 (.tmp 2) (.tmp 34) rfl w.heap.size #[.int .i64 0, .int .i64 0, .int .i64 0, .int .i64 0] rfl rfl 39 _ RS8.out (infoS4 _ _ _ _) rfl oneS4 ?_)
    refine bodyPost_ret (v := .tuple #[.agg #[.int .i64 0, .int .i64 0, .int .i64 0, .int .i64 0], .bool false]) ?_ rfl ?_
    · exact results_cell_row2 rfl _ _ w.heap.size 39 _ (0, 0) _ _ rfl rfl (setRow_heap _ _ _ _ _ _ RS8.out) Try.underlying39 rfl (by kernel_rfl)
    · exact ⟨by rw [E.out.1, E.out.2], below_setRow BW8.out (Nat.le_refl _) _⟩
  have HV := Lib.hid (fun W => by have h := implValidSuper_any x0 x1 x2 x3 W (by have := I0.out; unfold InI; omega) (by have := I1.out; unfold InI; omega); rw [hv] at h; exact h)
  have HH : Hid (∀ W, Calls Try.prog 126 #[.agg #[.int .i64 x0, .int .i64 x1, .int .i64 x2, .int .i64 x3]] W (GivesB (.agg (Lib.byteCells h3.data.toList).toArray) W)) := Lib.hid (fun W => HHo.out W hv)
  by_cases h13 : h1 = h3
  rotate_left
  · have heq3 : ∀ W, (Op.equalIn 10000 167 (.agg (Lib.byteCells h1.data.toList).toArray) (.agg (Lib.byteCells h3.data.toList).toArray)).run Try.prog W = .ok false W := fun W => by have h := HE3.out W; rw [decide_eq_false h13] at h; exact h
    have E : Hid (A = #[.int .i64 0, .int .i64 0, .int .i64 0, .int .i64 0] ∧ Y = false) := Lib.hid (by have h := EY.out; simp [h13] at h; exact ⟨by rw [EA.out, h]; rfl, h⟩)
    clear h13 hv
    refine wp_region_held_drew (S := (fun W => W.rangeAt (w.heap.size + 1) 0 (Lib.byteCells h1.data.toList) ∧ W.rangeAt (w.heap.size + 1 + 1) 0 (Lib.byteCells h2.data.toList) ∧ W.cell? ⟨b, 0, none⟩ = some (.int .i64 x0) ∧ W.cell? ⟨b, 1, none⟩ = some (.int .i64 x1) ∧ W.cell? ⟨b, 2, none⟩ = some (.int .i64 x2) ∧ W.cell? ⟨b, 3, none⟩ = some (.int .i64 x3))) (by kernel_rfl) (HS7.out _ HDr.out) (fun hHeld => ?_)
    refine held_mid 0 (some 20) (v := .agg (Lib.byteCells h1.data.toList).toArray) rfl rfl (by kernel_rfl) (by kernel_rfl) (by kernel_rfl) (fun _ _ _ h => h) (yieldsIf_load_mid (by rfl) _ _ rfl _ _ rfl (Lib.byteCells h1.data.toList) _ (fun w hS => hS.1) U32 rfl i1) hHeld ?_
    try simp only [Act.put, List.setIfInBounds_toArray, List.set_cons_zero, List.set_cons_succ]
    refine held_mid 1 (some 21) (v := .agg (Lib.byteCells h2.data.toList).toArray) rfl rfl (by kernel_rfl) (by kernel_rfl) (by kernel_rfl) (fun _ _ _ h => h) (yieldsIf_load_mid (by rfl) _ _ rfl _ _ rfl (Lib.byteCells h2.data.toList) _ (fun w hS => hS.2.1) U32 rfl i2) hHeld ?_
    try simp only [Act.put, List.setIfInBounds_toArray, List.set_cons_zero, List.set_cons_succ]
    refine held_yes 2 (some 22) rfl rfl (by kernel_rfl) (by kernel_rfl) (by kernel_rfl) (fun _ _ _ h => h) (by kernel_rfl) hHeld (v := ?_) (fun wz hSw => ?_) ?_
    rotate_left 1
    · (try dsimp only at hSw); go_simp; (try with_reducible rfl)
    try simp only [Act.put, List.setIfInBounds_toArray, List.set_cons_zero, List.set_cons_succ]
    refine held_yes 3 (some 23) rfl rfl (by kernel_rfl) (by kernel_rfl) (by kernel_rfl) (fun _ _ _ h => h) (by kernel_rfl) hHeld (v := ?_) (fun wz hSw => ?_) ?_
    rotate_left 1
    · (try dsimp only at hSw); go_simp; (try with_reducible rfl)
    try simp only [Act.put, List.setIfInBounds_toArray, List.set_cons_zero, List.set_cons_succ]
    refine held_yes 4 (some 24) rfl rfl (by kernel_rfl) (by kernel_rfl) (by kernel_rfl) (fun _ _ _ h => h) (by kernel_rfl) hHeld (v := ?_) (fun wz hSw => ?_) ?_
    rotate_left 1
    · (try dsimp only at hSw); go_simp; (try with_reducible rfl)
    try simp only [Act.put, List.setIfInBounds_toArray, List.set_cons_zero, List.set_cons_succ]
    refine wpAnyH_ready (rs := [5]) (by kernel_rfl) (by simp) ?_
    refine AllReadyH.cons rfl (fun K hK => ?_) AllReadyH.nil
    go_simp
    go_at_call 125
    go_fit (HV.out _)
    rintro e u1 ⟨rfl, ga⟩
    have kb1 : Below w7.heap.size w7 u1 := HDr.out.trans (ga.mono HDr.out.size)
    refine hK.out _ _ (HS7.out _ kb1) (fun hHeld => ?_)
    clear hK K
    try simp only [Act.put, List.setIfInBounds_toArray, List.set_cons_zero, List.set_cons_succ]
    refine held_yes 6 (some 26) rfl rfl (by kernel_rfl) (by kernel_rfl) (by kernel_rfl) (fun _ _ _ h => h) (by kernel_rfl) hHeld (v := ?_) (fun wz hSw => ?_) ?_
    rotate_left 1
    · (try dsimp only at hSw); go_simp; (try with_reducible rfl)
    try simp only [Act.put, List.setIfInBounds_toArray, List.set_cons_zero, List.set_cons_succ]
    refine held_yes 7 (some 27) rfl rfl (by kernel_rfl) (by kernel_rfl) (by kernel_rfl) (fun _ _ _ h => h) (by kernel_rfl) hHeld (v := ?_) (fun wz hSw => ?_) ?_
    rotate_left 1
    · (try dsimp only at hSw); go_simp; (try with_reducible rfl)
    try simp only [Act.put, List.setIfInBounds_toArray, List.set_cons_zero, List.set_cons_succ]
    refine held_yes 8 (some 28) rfl rfl (by kernel_rfl) (by kernel_rfl) (by kernel_rfl) (fun _ _ _ h => h) (by kernel_rfl) hHeld (v := ?_) (fun wz hSw => ?_) ?_
    rotate_left 1
    · (try dsimp only at hSw); go_simp; (try with_reducible rfl)
    try simp only [Act.put, List.setIfInBounds_toArray, List.set_cons_zero, List.set_cons_succ]
    refine held_mid 9 (some 29) (v := .agg (Lib.byteCells h1.data.toList).toArray) rfl rfl (by kernel_rfl) (by kernel_rfl) (by kernel_rfl) (fun _ _ _ h => h) (yieldsIf_load_mid (by rfl) _ _ rfl _ _ rfl (Lib.byteCells h1.data.toList) _ (fun w hS => hS.1) U32 rfl i1) hHeld ?_
    try simp only [Act.put, List.setIfInBounds_toArray, List.set_cons_zero, List.set_cons_succ]
    refine held_yes 10 (some 30) rfl rfl (by kernel_rfl) (by kernel_rfl) (by kernel_rfl) (fun _ _ _ h => h) (by kernel_rfl) hHeld (v := ?_) (fun wz hSw => ?_) ?_
    rotate_left 1
    · (try dsimp only at hSw); go_simp; (try with_reducible rfl)
    try simp only [Act.put, List.setIfInBounds_toArray, List.set_cons_zero, List.set_cons_succ]
    refine wpAnyH_ready (rs := [11]) (by kernel_rfl) (by simp) ?_
    refine AllReadyH.cons rfl (fun K hK => ?_) AllReadyH.nil
    go_simp
    go_at_call 126
    go_fit (HH.out _)
    rintro e u2 ⟨rfl, gb⟩
    have kb2 : Below w7.heap.size w7 u2 := kb1.trans (gb.mono kb1.size)
    refine hK.out _ _ (HS7.out _ kb2) (fun hHeld => ?_)
    clear hK K
    try simp only [Act.put, List.setIfInBounds_toArray, List.set_cons_zero, List.set_cons_succ]
    refine held_yes 12 (some 32) rfl rfl (by kernel_rfl) (by kernel_rfl) (by kernel_rfl) (fun _ _ _ h => h) (by kernel_rfl) hHeld (v := ?_) (fun wz hSw => ?_) ?_
    rotate_left 1
    · (try dsimp only at hSw); go_simp; (try with_reducible rfl)
    try simp only [Act.put, List.setIfInBounds_toArray, List.set_cons_zero, List.set_cons_succ]
    refine held_yes 13 (some 33) rfl rfl (by kernel_rfl) (by kernel_rfl) (by kernel_rfl) (fun _ _ _ h => h) (by kernel_rfl) hHeld (v := ?_) (fun wz hSw => ?_) ?_
    rotate_left 1
    · (try dsimp only at hSw); go_simp; (try with_reducible rfl)
    try simp only [Act.put, List.setIfInBounds_toArray, List.set_cons_zero, List.set_cons_succ]
    refine wpAnyH_done (by kernel_rfl) ?_ _
    try generalize (Value.agg (Lib.byteCells h1.data.toList).toArray) = z1
    try generalize (Value.agg (Lib.byteCells h2.data.toList).toArray) = z2
    try generalize (Value.agg (Lib.byteCells h3.data.toList).toArray) = z3
    have RS8 : Hid (u2.heap[w.heap.size]? = some (.cells #[.int .i64 0, .int .i64 0, .int .i64 0, .int .i64 0] 39 (0, 0))) := Lib.hid ((kb2.block _ (by have := ZW7.out; omega)).trans RS7.out)
    have BW8 : Hid (Below w.heap.size w u2) := Lib.hid (BW7.out.trans (kb2.mono BW7.out.size))
    clear heq i1 i2 U32 hHeld
    try simp only [Exit.then]
    go_wp2_with (refine wpList_store_row rfl 39 (.tmp 2) (.tmp 34) rfl w.heap.size #[.int .i64 0, .int .i64 0, .int .i64 0, .int .i64 0] rfl rfl 39 _ RS8.out (infoS4 _ _ _ _) rfl oneS4 ?_)
    refine bodyPost_ret (v := .tuple #[.agg #[.int .i64 0, .int .i64 0, .int .i64 0, .int .i64 0], .bool false]) ?_ rfl ?_
    · exact results_cell_row2 rfl _ _ w.heap.size 39 _ (0, 0) _ _ rfl rfl (setRow_heap _ _ _ _ _ _ RS8.out) Try.underlying39 rfl (by kernel_rfl)
    · exact ⟨by rw [E.out.1, E.out.2], below_setRow BW8.out (Nat.le_refl _) _⟩
  have heq3 : ∀ W, (Op.equalIn 10000 167 (.agg (Lib.byteCells h1.data.toList).toArray) (.agg (Lib.byteCells h3.data.toList).toArray)).run Try.prog W = .ok true W := fun W => by have h := HE3.out W; rw [decide_eq_true h13] at h; exact h
  have E : Hid (A = #[.int .i64 x0, .int .i64 x1, .int .i64 x2, .int .i64 x3] ∧ Y = true) := Lib.hid (by have h := EY.out; rw [decide_eq_true HE.out, hv, decide_eq_true h13] at h; simp at h; exact ⟨by rw [EA.out, h]; rfl, h⟩)
  clear h13 hv
  refine wp_region_held_drew (S := (fun W => W.rangeAt (w.heap.size + 1) 0 (Lib.byteCells h1.data.toList) ∧ W.rangeAt (w.heap.size + 1 + 1) 0 (Lib.byteCells h2.data.toList) ∧ W.cell? ⟨b, 0, none⟩ = some (.int .i64 x0) ∧ W.cell? ⟨b, 1, none⟩ = some (.int .i64 x1) ∧ W.cell? ⟨b, 2, none⟩ = some (.int .i64 x2) ∧ W.cell? ⟨b, 3, none⟩ = some (.int .i64 x3))) (by kernel_rfl) (HS7.out _ HDr.out) (fun hHeld => ?_)
  refine held_mid 0 (some 20) (v := .agg (Lib.byteCells h1.data.toList).toArray) rfl rfl (by kernel_rfl) (by kernel_rfl) (by kernel_rfl) (fun _ _ _ h => h) (yieldsIf_load_mid (by rfl) _ _ rfl _ _ rfl (Lib.byteCells h1.data.toList) _ (fun w hS => hS.1) U32 rfl i1) hHeld ?_
  try simp only [Act.put, List.setIfInBounds_toArray, List.set_cons_zero, List.set_cons_succ]
  refine held_mid 1 (some 21) (v := .agg (Lib.byteCells h2.data.toList).toArray) rfl rfl (by kernel_rfl) (by kernel_rfl) (by kernel_rfl) (fun _ _ _ h => h) (yieldsIf_load_mid (by rfl) _ _ rfl _ _ rfl (Lib.byteCells h2.data.toList) _ (fun w hS => hS.2.1) U32 rfl i2) hHeld ?_
  try simp only [Act.put, List.setIfInBounds_toArray, List.set_cons_zero, List.set_cons_succ]
  refine held_yes 2 (some 22) rfl rfl (by kernel_rfl) (by kernel_rfl) (by kernel_rfl) (fun _ _ _ h => h) (by kernel_rfl) hHeld (v := ?_) (fun wz hSw => ?_) ?_
  rotate_left 1
  · (try dsimp only at hSw); go_simp; (try with_reducible rfl)
  try simp only [Act.put, List.setIfInBounds_toArray, List.set_cons_zero, List.set_cons_succ]
  refine held_yes 3 (some 23) rfl rfl (by kernel_rfl) (by kernel_rfl) (by kernel_rfl) (fun _ _ _ h => h) (by kernel_rfl) hHeld (v := ?_) (fun wz hSw => ?_) ?_
  rotate_left 1
  · (try dsimp only at hSw); go_simp; (try with_reducible rfl)
  try simp only [Act.put, List.setIfInBounds_toArray, List.set_cons_zero, List.set_cons_succ]
  refine held_yes 4 (some 24) rfl rfl (by kernel_rfl) (by kernel_rfl) (by kernel_rfl) (fun _ _ _ h => h) (by kernel_rfl) hHeld (v := ?_) (fun wz hSw => ?_) ?_
  rotate_left 1
  · (try dsimp only at hSw); go_simp; (try with_reducible rfl)
  try simp only [Act.put, List.setIfInBounds_toArray, List.set_cons_zero, List.set_cons_succ]
  refine wpAnyH_ready (rs := [5]) (by kernel_rfl) (by simp) ?_
  refine AllReadyH.cons rfl (fun K hK => ?_) AllReadyH.nil
  go_simp
  go_at_call 125
  go_fit (HV.out _)
  rintro e u1 ⟨rfl, ga⟩
  have kb1 : Below w7.heap.size w7 u1 := HDr.out.trans (ga.mono HDr.out.size)
  refine hK.out _ _ (HS7.out _ kb1) (fun hHeld => ?_)
  clear hK K
  try simp only [Act.put, List.setIfInBounds_toArray, List.set_cons_zero, List.set_cons_succ]
  refine held_yes 6 (some 26) rfl rfl (by kernel_rfl) (by kernel_rfl) (by kernel_rfl) (fun _ _ _ h => h) (by kernel_rfl) hHeld (v := ?_) (fun wz hSw => ?_) ?_
  rotate_left 1
  · (try dsimp only at hSw); go_simp; (try with_reducible rfl)
  try simp only [Act.put, List.setIfInBounds_toArray, List.set_cons_zero, List.set_cons_succ]
  refine held_yes 7 (some 27) rfl rfl (by kernel_rfl) (by kernel_rfl) (by kernel_rfl) (fun _ _ _ h => h) (by kernel_rfl) hHeld (v := ?_) (fun wz hSw => ?_) ?_
  rotate_left 1
  · (try dsimp only at hSw); go_simp; (try with_reducible rfl)
  try simp only [Act.put, List.setIfInBounds_toArray, List.set_cons_zero, List.set_cons_succ]
  refine held_yes 8 (some 28) rfl rfl (by kernel_rfl) (by kernel_rfl) (by kernel_rfl) (fun _ _ _ h => h) (by kernel_rfl) hHeld (v := ?_) (fun wz hSw => ?_) ?_
  rotate_left 1
  · (try dsimp only at hSw); go_simp; (try with_reducible rfl)
  try simp only [Act.put, List.setIfInBounds_toArray, List.set_cons_zero, List.set_cons_succ]
  refine held_mid 9 (some 29) (v := .agg (Lib.byteCells h1.data.toList).toArray) rfl rfl (by kernel_rfl) (by kernel_rfl) (by kernel_rfl) (fun _ _ _ h => h) (yieldsIf_load_mid (by rfl) _ _ rfl _ _ rfl (Lib.byteCells h1.data.toList) _ (fun w hS => hS.1) U32 rfl i1) hHeld ?_
  try simp only [Act.put, List.setIfInBounds_toArray, List.set_cons_zero, List.set_cons_succ]
  refine held_yes 10 (some 30) rfl rfl (by kernel_rfl) (by kernel_rfl) (by kernel_rfl) (fun _ _ _ h => h) (by kernel_rfl) hHeld (v := ?_) (fun wz hSw => ?_) ?_
  rotate_left 1
  · (try dsimp only at hSw); go_simp; (try with_reducible rfl)
  try simp only [Act.put, List.setIfInBounds_toArray, List.set_cons_zero, List.set_cons_succ]
  refine wpAnyH_ready (rs := [11]) (by kernel_rfl) (by simp) ?_
  refine AllReadyH.cons rfl (fun K hK => ?_) AllReadyH.nil
  go_simp
  go_at_call 126
  go_fit (HH.out _)
  rintro e u2 ⟨rfl, gb⟩
  have kb2 : Below w7.heap.size w7 u2 := kb1.trans (gb.mono kb1.size)
  refine hK.out _ _ (HS7.out _ kb2) (fun hHeld => ?_)
  clear hK K
  try simp only [Act.put, List.setIfInBounds_toArray, List.set_cons_zero, List.set_cons_succ]
  refine held_yes 12 (some 32) rfl rfl (by kernel_rfl) (by kernel_rfl) (by kernel_rfl) (fun _ _ _ h => h) (by kernel_rfl) hHeld (v := ?_) (fun wz hSw => ?_) ?_
  rotate_left 1
  · (try dsimp only at hSw); go_simp; (try with_reducible rfl)
  try simp only [Act.put, List.setIfInBounds_toArray, List.set_cons_zero, List.set_cons_succ]
  refine held_yes 13 (some 33) rfl rfl (by kernel_rfl) (by kernel_rfl) (by kernel_rfl) (fun _ _ _ h => h) (by kernel_rfl) hHeld (v := ?_) (fun wz hSw => ?_) ?_
  rotate_left 1
  · (try dsimp only at hSw); go_simp; (try with_reducible rfl)
  try simp only [Act.put, List.setIfInBounds_toArray, List.set_cons_zero, List.set_cons_succ]
  refine wpAnyH_done (by kernel_rfl) ?_ _
  try generalize (Value.agg (Lib.byteCells h1.data.toList).toArray) = z1
  try generalize (Value.agg (Lib.byteCells h2.data.toList).toArray) = z2
  try generalize (Value.agg (Lib.byteCells h3.data.toList).toArray) = z3
  clear heq i1 i2 U32 hHeld
  try simp only [Exit.then]
  have RS8 : Hid (u2.heap[w.heap.size]? = some (.cells #[.int .i64 0, .int .i64 0, .int .i64 0, .int .i64 0] 39 (0, 0))) := Lib.hid ((kb2.block _ (by have := ZW7.out; omega)).trans RS7.out)
  have BW8 : Hid (Below w.heap.size w u2) := Lib.hid (BW7.out.trans (kb2.mono BW7.out.size))
  obtain ⟨-, -, p0, p1, p2, p3⟩ := HS7.out u2 kb2
  go_wp2_with (refine wpList_store_row rfl 39 (.tmp 2) (.tmp 35) rfl w.heap.size #[.int .i64 x0, .int .i64 x1, .int .i64 x2, .int .i64 x3] rfl rfl 39 _ RS8.out (infoS4 _ _ _ _) rfl oneS4 ?_)
  refine bodyPost_ret (v := .tuple #[.agg #[.int .i64 x0, .int .i64 x1, .int .i64 x2, .int .i64 x3], .bool true]) ?_ rfl ?_
  · exact results_cell_row2 rfl _ _ w.heap.size 39 _ (0, 0) _ _ rfl rfl (setRow_heap _ _ _ _ _ _ RS8.out) Try.underlying39 rfl (by kernel_rfl)
  · exact ⟨by rw [E.out.1, E.out.2], below_setRow BW8.out (Nat.le_refl _) _⟩
end Go.Proofs.Ytlickjmdlooapaa
